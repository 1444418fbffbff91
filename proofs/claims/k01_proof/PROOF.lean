import PyProof.Rows.All
import Wide.All
import OpenK.KLine
import OpenK.KWalk
import OpenK.KMore
import KE.KTryMore
import KE.KItem
import KE.KxBytes
import KE.KDictOf
import Wide.FinOn
import PyProof.EqAt
import PyProof.EqKinds
import PyProof.TupleCall
import PyProof.Rows.SetFrom
import PyProof.CollectIter
import PyProof.DictWalks
import PyProof.Rows.SortShell
import PyProof.MinMaxWalk
import PyProof.SeqI3
import PyProof.WalkInts
import PyProof.SliceStr2
import PySem.Challenge.RW_oddcoin_k01_whole_told
set_option Elab.async false
set_option linter.all false
set_option maxRecDepth 100000
set_option maxHeartbeats 4000000
section
namespace L2
open PySem PySem.Spec PyProof.Rows
abbrev Key := Sum Int Str
def keyIs : Key → Value → Bool
  | .inl k, v => Value.isInt k v
  | .inr x, v => Value.isStrOf x v
def keyH (w : World) : Key → Int
  | .inl k => hashInt k
  | .inr x => hashStr w x
theorem keyIs_shape : ∀ {k : Key} {v : Value}, keyIs k v = true → (∃ i t, k = Sum.inl i ∧ v = Value.int i t) ∨ (∃ x t, k = Sum.inr x ∧ v = Value.str x t)
  | .inl i, v, h => by
    obtain ⟨t, e⟩ := Value.isInt_shape (k := i) (v := v) h
    exact .inl ⟨i, t, rfl, e⟩
  | .inr x, v, h => by
    obtain ⟨t, e⟩ := Value.isStrOf_shape (x := x) (v := v) h
    exact .inr ⟨x, t, rfl, e⟩
theorem keyIs_int (i : Int) (t : Tok) : keyIs (.inl i) (.int i t) = true := by simp [keyIs, Value.isInt]
theorem keyIs_str (x : Str) (t : Tok) : keyIs (.inr x) (.str x t) = true := by simp [keyIs, Value.isStrOf]
theorem key_ll (a b : Int) : decide ((Sum.inl a : Key) = Sum.inl b) = (a == b) := by
  by_cases e : a = b
  · subst e; simp
  · have h : ¬ (Sum.inl a : Key) = Sum.inl b := fun q => e (Sum.inl.inj q)
    rw [decide_eq_false h]
    exact (beq_eq_false_iff_ne.mpr e).symm
theorem key_rr (a b : Str) : decide ((Sum.inr a : Key) = Sum.inr b) = decide (a = b) := by
  by_cases e : a = b
  · subst e; simp
  · have h : ¬ (Sum.inr a : Key) = Sum.inr b := fun q => e (Sum.inr.inj q)
    rw [decide_eq_false h, decide_eq_false e]
theorem key_lr (a : Int) (b : Str) : decide ((Sum.inl a : Key) = Sum.inr b) = false := decide_eq_false (fun q => nomatch q)
theorem key_rl (a : Str) (b : Int) : decide ((Sum.inr a : Key) = Sum.inl b) = false := decide_eq_false (fun q => nomatch q)
def mixKind (prog : Program) (w : World) : PySem.KeyKind prog w Key where
  is := keyIs
  hash := keyH w
  inj := fun v a b ha hb => by
    rcases keyIs_shape ha with ⟨i, t, rfl, rfl⟩ | ⟨x, t, rfl, rfl⟩
    · rcases keyIs_shape hb with ⟨j, u, rfl, e⟩ | ⟨y, u, rfl, e⟩
      · injection e with e1 _; rw [e1]
      · exact nomatch e
    · rcases keyIs_shape hb with ⟨j, u, rfl, e⟩ | ⟨y, u, rfl, e⟩
      · exact nomatch e
      · injection e with e1 _; rw [e1]
  byValue := fun k v h => by
    rcases keyIs_shape h with ⟨i, t, rfl, rfl⟩ | ⟨x, t, rfl, rfl⟩ <;> rfl
  pyHash := fun hv h => by
    rcases keyIs_shape hv with ⟨i, t, rfl, rfl⟩ | ⟨x, t, rfl, rfl⟩
    · exact wpAny_pyHash_int h
    · exact wpAny_pyHash_str h
  eqBool := fun hu hv h => by
    rcases keyIs_shape hu with ⟨i, t, rfl, rfl⟩ | ⟨x, t, rfl, rfl⟩
    · rcases keyIs_shape hv with ⟨j, u, rfl, rfl⟩ | ⟨y, u, rfl, rfl⟩
      · rw [key_ll] at h; exact wpAny_eqBool_int h
      · rw [key_lr] at h; exact SeqAt.EqAt.int_str i t y u _ _ _ _ h
    · rcases keyIs_shape hv with ⟨j, u, rfl, rfl⟩ | ⟨y, u, rfl, rfl⟩
      · rw [key_rl] at h; exact SeqAt.EqAt.str_int x t j u _ _ _ _ h
      · rw [key_rr] at h; exact wpAny_eqBool_str h
  «strs» := fun k x t v h => by
    rcases keyIs_shape h with ⟨i, u, rfl, e⟩ | ⟨y, u, rfl, e⟩
    · exact nomatch e
    · injection e with e1 _
      subst e1
      cases v <;> rfl
theorem mixKind_int (prog : Program) (w : World) (i : Int) (t : Tok) : (mixKind prog w).is (.inl i) (.int i t) = true := keyIs_int i t
theorem mixKind_str (prog : Program) (w : World) (x : Str) (t : Tok) : (mixKind prog w).is (.inr x) (.str x t) = true := keyIs_str x t
end L2
namespace L2
open PySem PySem.Spec PyProof.Rows
inductive V where
  | non | bl (b : Bool) | int (i : Int) | str (x : Str) | byt (b : Array UInt8) | flt (b : UInt64) | ref (a : Addr) | ty (n : String)
  deriving DecidableEq
def RelV : V → Value → Prop
  | .non, u => u = Value.none
  | .bl b, u => u = Value.bool b
  | .int i, u => ∃ t, u = Value.int i t
  | .str x, u => ∃ t, u = Value.str x t
  | .byt b, u => ∃ t, u = Value.bytes b t
  | .flt b, u => ∃ t, u = Value.float b t
  | .ref a, u => u = Value.ref a
  | .ty n, u => u = Value.type n
abbrev Vals : List V → List Value → Prop := Paired RelV
theorem Vals.length {xs : List V} {us : List Value} (r : Vals xs us) : xs.length = us.length := Paired.length r
theorem Vals.get : ∀ {xs : List V} {us : List Value} {i : Nat} {x : V}, Vals xs us → xs[i]? = some x → ∃ u, us[i]? = some u ∧ RelV x u
  | _, _, _, _, .nil, e => by simp at e
  | _, _, 0, _, .cons r _, e => by simp at e; subst e; exact ⟨_, rfl, r⟩
  | _, _, i + 1, x, .cons _ t, e => by
    obtain ⟨u, h1, h2⟩ := Vals.get (i := i) (x := x) t (by simpa using e)
    exact ⟨u, by simpa using h1, h2⟩
theorem Vals.append : ∀ {xs ys : List V} {us ws : List Value}, Vals xs us → Vals ys ws → Vals (xs ++ ys) (us ++ ws)
  | _, _, _, _, .nil, s => s
  | _, _, _, _, .cons r t, s => .cons r (Vals.append t s)
theorem Vals.take : ∀ {xs : List V} {us : List Value} (n : Nat), Vals xs us → Vals (xs.take n) (us.take n)
  | _, _, 0, _ => .nil
  | _, _, _ + 1, .nil => .nil
  | _, _, n + 1, .cons r t => .cons r (Vals.take n t)
theorem Vals.drop : ∀ {xs : List V} {us : List Value} (n : Nat), Vals xs us → Vals (xs.drop n) (us.drop n)
  | _, _, 0, r => r
  | _, _, _ + 1, .nil => .nil
  | _, _, n + 1, .cons _ t => Vals.drop n t
def RelO : Option V → Option Value → Prop
  | some v, some u => RelV v u
  | none, none => True
  | _, _ => False
def KV {κ : Type} : List (κ × V) → List (κ × Value) → Prop := Paired fun (p : κ × V) (q : κ × Value) => p.1 = q.1 ∧ RelV p.2 q.2
def kV : Key → V
  | .inl i => .int i
  | .inr x => .str x
inductive HO where
    | lst (xs : List V)
    | tup (xs : List V)
    | dK (kvs : List (Key × V)) | dT (kvs : List (List Key × V))
    | set (S : Int → Bool) (n : Nat)
    | ins (C dx : Addr) (fs : List (Str × V))
    | own (x : Addr)
    | xd (fs : List (Str × V))
    | met (f x : Addr)
    | rng (lo hi : Int)
    | frz (o : Obj) (u : HO)
    | tbl (ps : Array Value)
    | ext (φ : Heap → Prop)
abbrev Hp := Addr → Option HO
def upd (H : Hp) (a : Addr) (o : HO) : Hp := fun b => if b = a then some o else H b
theorem upd_same {H : Hp} {a : Addr} {o : HO} : upd H a o a = some o := by unfold upd; rw [if_pos rfl]
theorem upd_ne {H : Hp} {a b : Addr} {o : HO} (h : b ≠ a) : upd H a o b = H b := by unfold upd; rw [if_neg h]
theorem upd_upd {H : Hp} {a : Addr} {o u : HO} : upd (upd H a o) a u = upd H a u := by
  funext b; unfold upd; split <;> rfl
theorem ne_of {H : Hp} {a b : Addr} {o u : HO} (h : H a = some o) (h' : H b = some u) (d : o ≠ u) : a ≠ b := by
  intro e; subst e; rw [h] at h'; exact d (Option.some.inj h')
theorem ne_of_none {H : Hp} {a b : Addr} {o : HO} (h : H a = some o) (h' : H b = none) : a ≠ b := by
  intro e; subst e; rw [h] at h'; cases h'
section
variable (P : Program) (w : World)
def ObjOk (H : Hp) (h : Heap) (a : Addr) : HO → Prop
  | .lst xs => xs.length ≤ sizeLine ∧ ∃ (its : List Value) (n : Nat), Vals xs its ∧ h.get? a = some { cls := .type "list", data := .seq its.toArray n }
  | .tup xs => xs.length ≤ sizeLine ∧ ∃ its : List Value, Vals xs its ∧ IsTup h a its.toArray
  | .dK kvs => kvs.length ≤ sizeLine ∧ (a == sysModules) = false ∧ ∃ vs, KV kvs vs ∧ h.DictOf (mixKind P w) a vs
  | .dT kvs => kvs.length ≤ sizeLine ∧ (a == sysModules) = false ∧ ∃ xs : List (List Key × Addr × Value),
      Paired (fun (p : List Key × V) (q : List Key × Addr × Value) => p.1 = q.1 ∧ H q.2.1 = some (.tup (p.1.map kV)) ∧ RelV p.2 q.2.2) kvs xs ∧
      ∃ o es ep, h.get? a = some o ∧ o.ExactDict ∧ o.data = .dict es ep ∧ es.toList = xs.map (entryOfKey (tupleKind (mixKind P w))) ∧ (xs.map (·.1)).Nodup
  | .set S n => h.SetOf (intKind P w) a S n
  | .ins C dx fs => H dx = some (.own a) ∧ fs.length ≤ 1000 ∧ dx ≠ a ∧ h.get? a = some (PySem.W.instObj C dx) ∧
      ∃ mA, h.Ns1 dx mA ∧ (∀ f, RelO (fs.lookup f) (mA f)) ∧ PySem.Within mA (fs.map (·.1))
  | .own _ => ∃ o, h.get? a = some o
  | .xd fs => ∃ mA, h.Ns1 a mA ∧ ∀ f, RelO (fs.lookup f) (mA f)
  | .rng lo hi => ∃ t u v, h.get? a = some { cls := .type "range", data := .fields #[.int lo t, .int hi u, .int 1 v] }
  | .frz o u => h.get? a = some o ∧ ObjOk H h a u
  | .tbl ps => h.get? a = some { cls := .none, data := .fields ps }
  | .met f x => h.get? a = some (PySem.W.methodObj (.ref f) (.ref x))
  | .ext φ => φ h ∧ (∃ o, h.get? a = some o) ∧ ∀ h1 h2 : Heap, φ h1 → (∀ o, h1.get? a = some o → h2.get? a = some o) → φ h2
def HOk (H : Hp) (h : Heap) : Prop := ∀ a o, H a = some o → ObjOk P w H h a o
end
section
variable {P : Program} {w : World} {H H' : Hp} {h h' : Heap} {a : Addr} {o : HO}
theorem ObjOk.lt (x : ObjOk P w H h a o) : a < h.objs.size := by
  cases o with
  | lst xs => obtain ⟨_, _, _, _, e⟩ := x; exact Heap.lt_size e
  | tup xs => obtain ⟨_, _, _, p⟩ := x; exact p.lt
  | dK kvs => obtain ⟨_, _, _, _, o, _, _, e, _⟩ := x; exact Heap.lt_size e
  | dT kvs => obtain ⟨_, _, _, _, o, _, _, e, _⟩ := x; exact Heap.lt_size e
  | set S n => obtain ⟨o, _, _, _, e, _⟩ := x; exact Heap.lt_size e
  | ins C dx fs => obtain ⟨_, _, _, e, _⟩ := x; exact Heap.lt_size e
  | own y => obtain ⟨_, e⟩ := x; exact Heap.lt_size e
  | xd fs => obtain ⟨_, ⟨_, _, _, e, _⟩, _⟩ := x; exact Heap.lt_size e
  | rng lo hi => obtain ⟨_, _, _, e⟩ := x; exact Heap.lt_size e
  | frz ob u => obtain ⟨e, _⟩ := x; exact Heap.lt_size e
  | tbl ps => exact Heap.lt_size (show h.get? a = some _ from x)
  | met f y => exact Heap.lt_size (show h.get? a = some _ from x)
  | ext φ => obtain ⟨_, ⟨_, e⟩, _⟩ := x; exact Heap.lt_size e
theorem Paired.mapP {α β : Type} {F G : α → β → Prop} : ∀ {l₁ : List α} {l₂ : List β}, Paired F l₁ l₂ → (∀ a b, F a b → G a b) → Paired G l₁ l₂
  | _, _, .nil, _ => .nil
  | _, _, .cons r t, f => .cons (f _ _ r) (Paired.mapP t f)
theorem ObjOk.stay (x : ObjOk P w H h a o) (k : ∀ b u, (b = a ∨ H b = some (.own a)) → h.get? b = some u → h'.get? b = some u)
    (ho : ∀ b, H b = some (.own a) → H' b = some (.own a)) (ht : ∀ b xs, H b = some (.tup xs) → H' b = some (.tup xs)) : ObjOk P w H' h' a o := by
  induction o with
  | lst xs => obtain ⟨z, its, n, r, e⟩ := x; exact ⟨z, its, n, r, k _ _ (.inl rfl) e⟩
  | tup xs => obtain ⟨z, its, r, ob, e, c⟩ := x; exact ⟨z, its, r, ob, k _ _ (.inl rfl) e, c⟩
  | dK kvs => obtain ⟨z, y, vs, r, ob, es, ep, e, c⟩ := x; exact ⟨z, y, vs, r, ob, es, ep, k _ _ (.inl rfl) e, c⟩
  | dT kvs =>
    obtain ⟨z, y, xs, r, ob, es, ep, e, c⟩ := x
    exact ⟨z, y, xs, Paired.mapP r fun p q z => ⟨z.1, ht _ _ z.2.1, z.2.2⟩, ob, es, ep, k _ _ (.inl rfl) e, c⟩
  | set S n => obtain ⟨ob, es, ep, t, e, c⟩ := x; exact ⟨ob, es, ep, t, k _ _ (.inl rfl) e, c⟩
  | ins C dx fs =>
    obtain ⟨d, z, ne, e, mA, ⟨od, es, ep, e2, c⟩, r⟩ := x
    exact ⟨ho _ d, z, ne, k _ _ (.inl rfl) e, mA, ⟨od, es, ep, k _ _ (.inr d) e2, c⟩, r⟩
  | own y => obtain ⟨ob, e⟩ := x; exact ⟨ob, k _ _ (.inl rfl) e⟩
  | xd fs => obtain ⟨mA, ⟨od, es, ep, e, c⟩, r⟩ := x; exact ⟨mA, ⟨od, es, ep, k _ _ (.inl rfl) e, c⟩, r⟩
  | rng lo hi => obtain ⟨t, u, v, e⟩ := x; exact ⟨t, u, v, k _ _ (.inl rfl) e⟩
  | frz ob u ih => obtain ⟨e, q⟩ := x; exact ⟨k _ _ (.inl rfl) e, ih q⟩
  | tbl ps =>
    have e : h.get? a = some { cls := .none, data := .fields ps } := x
    show h'.get? a = some { cls := .none, data := .fields ps }
    exact k a _ (.inl rfl) e
  | met f y =>
    have e : h.get? a = some (PySem.W.methodObj (.ref f) (.ref y)) := x
    show h'.get? a = some (PySem.W.methodObj (.ref f) (.ref y))
    exact k a _ (.inl rfl) e
  | ext φ => obtain ⟨p, ⟨o, e⟩, st⟩ := x; exact ⟨st _ _ p fun o q => k _ _ (.inl rfl) q, ⟨o, k _ _ (.inl rfl) e⟩, st⟩
theorem HOk.lt (x : HOk P w H h) (e : H a = some o) : a < h.objs.size := (x a o e).lt
theorem HOk.fresh (x : HOk P w H h) (e : h.objs.size ≤ a) : H a = none := by
  cases q : H a with
  | none => rfl
  | some u => exact absurd (Nat.lt_of_lt_of_le (x.lt q) e) (Nat.lt_irrefl _)
theorem HOk.kept (x : HOk P w H h) (k : ∀ b u, h.get? b = some u → h'.get? b = some u) : HOk P w H h' := fun a o e =>
  (x a o e).stay (fun b u _ q => k b u q) (fun _ q => q) fun _ _ q => q
theorem HOk.laid (x : HOk P w H h) (k : ∀ b u, h.get? b = some u → h'.get? b = some u) (hp : h.objs.size ≤ a) (new : ObjOk P w (upd H a o) h' a o) : HOk P w (upd H a o) h' := fun b u e => by
  have hn := x.fresh hp
  by_cases hb : b = a
  · subst hb; rw [upd_same] at e; cases e; exact new
  · rw [upd_ne hb] at e
    exact (x b u e).stay (fun c v _ q => k c v q) (fun c q => by rw [upd_ne (ne_of_none q hn)]; exact q) fun c xs q => by rw [upd_ne (ne_of_none q hn)]; exact q
end
def Rd (H : Hp) (a : Addr) (u : HO) : Prop := H a = some u ∨ ∃ o, H a = some (.frz o u)
theorem Rd.ok {P : Program} {w : World} {H : Hp} {h : Heap} {a : Addr} {u : HO} (r : Rd H a u) (x : HOk P w H h) : ObjOk P w H h a u := by
  rcases r with r | ⟨o, r⟩
  · exact x a u r
  · obtain ⟨_, q⟩ := x a _ r
    exact q
def Mut : Option HO → Prop
  | some (.lst _) => True
  | some (.dK _) => True
  | some (.dT _) => True
  | some (.set _ _) => True
  | some (.ins _ _ _) => True
  | some (.ext _) => True
  | _ => False
section
variable {P : Program} {w : World} {H : Hp} {h h' : Heap} {x e : Addr} {o' : HO}
theorem HOk.write (ok : HOk P w H h) (mu : Mut (H x)) (he : e = x ∨ H e = some (.own x)) (k : ∀ b u, b ≠ e → h.get? b = some u → h'.get? b = some u) (heo : ∃ u, h'.get? e = some u)
    (new : ObjOk P w (upd H x o') h' x o') : HOk P w (upd H x o') h' := fun b u q => by
  have nown : ∀ c y, H c = some (.own y) → c ≠ x := fun c y r z => by subst z; rw [r] at mu; exact mu
  have ntup : ∀ c xs, H c = some (.tup xs) → c ≠ x := fun c xs r z => by subst z; rw [r] at mu; exact mu
  by_cases hb : b = x
  · subst hb; rw [upd_same] at q; cases q; exact new
  · rw [upd_ne hb] at q
    by_cases hbe : b = e
    · have q' : H b = some (.own x) := by
        rcases he with z | z
        · exact absurd (hbe.trans z) hb
        · rw [hbe]; exact z
      rw [q] at q'; cases q'
      obtain ⟨v, hv⟩ := heo
      exact ⟨v, by rw [hbe]; exact hv⟩
    · refine (ok b u q).stay (fun c v hc r => k c v ?_ r) (fun c r => by rw [upd_ne (nown c b r)]; exact r) fun c xs r => by rw [upd_ne (ntup c xs r)]; exact r
      rcases hc with rfl | hc
      · exact hbe
      · rintro rfl
        rcases he with z | z
        · exact nown c b hc z
        · rw [hc] at z; cases z; exact hb rfl
end
structure Un (fs ex : List Addr) (H H' : Hp) (h h' : Heap) : Prop where
  keep : ∀ b o, h.get? b = some o → H b = none → b ∉ fs → b ∉ ex → h'.get? b = some o
  slot : ∀ b o, h.get? b = some o → H b = none → b ∈ fs → b ∉ ex → ∃ sl, h'.get? b = some { o with slots := sl }
  free : ∀ b o, h.get? b = some o → H b = none → b ∉ ex → H' b = none
  there : ∀ b o, h.get? b = some o → b ∉ ex → ∃ o', h'.get? b = some o'
  tups : ∀ b xs, H b = some (.tup xs) → H' b = some (.tup xs)
  frzs : ∀ b o u, H b = some (.frz o u) → H' b = some (.frz o u)
  tbls : ∀ b ps, H b = some (.tbl ps) → ∃ more, H' b = some (.tbl (ps ++ more))
section
variable {fs fs' ex ex' : List Addr} {H H1 H2 : Hp} {h h1 h2 h' : Heap} {a x e : Addr} {o : HO}
theorem Un.any (u : Un fs ex H H1 h h1) {b : Addr} {ob : Obj} (q : h.get? b = some ob) (n : H b = none) (hx : b ∉ ex) : ∃ sl, h1.get? b = some { ob with slots := sl } := by
  by_cases hb : b ∈ fs
  · exact u.slot b ob q n hb hx
  · exact ⟨ob.slots, u.keep b ob q n hb hx⟩
theorem Un.kept (k : ∀ b u, h.get? b = some u → h'.get? b = some u) : Un fs ex H H h h' :=
  ⟨fun b ob q _ _ _ => k b ob q, fun b ob q _ _ _ => ⟨ob.slots, k b ob q⟩, fun _ _ _ n _ => n, fun b ob q _ => ⟨ob, k b ob q⟩, fun _ _ q => q, fun _ _ _ q => q, fun _ ps q => ⟨#[], by rw [q]; simp⟩⟩
theorem Un.refl : Un fs ex H H h h := Un.kept fun _ _ q => q
theorem Un.laid (k : ∀ b u, h.get? b = some u → h'.get? b = some u) (hp : h.objs.size ≤ a) (hn : H a = none) : Un fs ex H (upd H a o) h h' where
  keep := fun b u q _ _ _ => k b u q
  slot := fun b u q _ _ _ => ⟨u.slots, k b u q⟩
  free := fun b u q n _ => by rw [upd_ne (Nat.ne_of_lt (Nat.lt_of_lt_of_le (Heap.lt_size q) hp))]; exact n
  there := fun b u q _ => ⟨u, k b u q⟩
  tups := fun b xs q => by rw [upd_ne (ne_of_none q hn)]; exact q
  frzs := fun b u xs q => by rw [upd_ne (ne_of_none q hn)]; exact q
  tbls := fun b ps q => ⟨#[], by rw [upd_ne (ne_of_none q hn), q]; simp⟩
theorem Un.write (mu : Mut (H x)) (he : e = x ∨ H e = some (.own x)) (k : ∀ b u, b ≠ e → h.get? b = some u → h'.get? b = some u) (heo : ∃ u, h'.get? e = some u) : Un fs ex H (upd H x o) h h' := by
  have hx : ∀ b, H b = none → b ≠ x := fun b n z => by subst z; rw [n] at mu; exact mu
  have hb : ∀ b, H b = none → b ≠ e := fun b n z => by
    subst z
    rcases he with r | r
    · exact hx b n r
    · rw [n] at r; cases r
  have hm : ∀ b u, H b = some u → ¬ Mut (some u) → b ≠ x := fun b u q nm z => by subst z; rw [q] at mu; exact nm mu
  refine ⟨fun b u q n _ _ => k b u (hb b n) q, fun b u q n _ _ => ⟨u.slots, k b u (hb b n) q⟩, fun b u q n _ => by rw [upd_ne (hx b n)]; exact n, fun b u q _ => ?_,
    fun b xs q => by rw [upd_ne (hm b _ q fun z => z)]; exact q, fun b u xs q => by rw [upd_ne (hm b _ q fun z => z)]; exact q, fun b ps q => ⟨#[], by rw [upd_ne (hm b _ q fun z => z), q]; simp⟩⟩
  by_cases hbe : b = e
  · subst hbe; exact heo
  · exact ⟨u, k b u hbe q⟩
end
def trk (h : Heap) (H : Hp) : List Addr := (List.range h.objs.size).filter fun a => (H a).isSome
def hidT (h : Heap) (H : Hp) : Heap := PySem.W.hideAll h (trk h H)
theorem hidT_size (h : Heap) (H : Hp) : (hidT h H).objs.size = h.objs.size := PySem.W.hideAll_size _ _
theorem hidT_get {h : Heap} {H : Hp} {b : Addr} {o : Obj} (e : h.get? b = some o) (n : H b = none) : (hidT h H).get? b = some o :=
  PySem.W.hideAll_get _ e fun hm => by
    have q : (H b).isSome = true := (List.mem_filter.mp hm).2
    rw [n] at q; simp at q
theorem of_hidT {h : Heap} {H : Hp} {b : Addr} {o : Obj} (e : (hidT h H).get? b = some o) : h.get? b = some o ∧ H b = none := by
  have e' : h.get? b = some o := PySem.W.of_hideAll (trk h H) e
  refine ⟨e', ?_⟩
  cases q : H b with
  | none => rfl
  | some x =>
    have hm : b ∈ trk h H := List.mem_filter.mpr ⟨List.mem_range.mpr (Heap.lt_size e'), by simp [q]⟩
    have z : (hidT h H).get? b = none := PySem.W.hideAll_none (trk h H) hm
    rw [z] at e; cases e
end L2
namespace L2
open PySem PySem.Spec PyProof.Rows
structure Mod (K : PySem.W.Frag) (mg : Str → Option Value) (base : Heap) : Prop where
  kin : K.In base
  glob : base.Ns mainGlobals mg
  blt : ∃ mb, base.Ns builtinsNs mb ∧ ∀ x : Str, x ≠ "__name__" → mb x = bootBuiltins x
  nolimit : base.NoLimit
structure Cx where
  prog : Program
  w : World
  K : PySem.W.Frag
  mg : Str → Option Value
  base : Heap
  A : Around
  N : List Str
  s₀ : Shared
  H₀ : Hp
  env : Env
  outer : List Env
  stack : List Env
  ex : List Addr
  fn : Str → Bool
  calm : Bool
  pn : List (Addr × Obj)
  xe : Value → Shared → Prop
def frs (l : List Env) : List Addr := l.filterMap (·.frame)
abbrev Cx.fs (X : Cx) : List Addr := frs X.outer
def Vis (sc : Scope) (x : Str) : Prop := sc.names.lookup x = some .local ∨ sc.names.lookup x = some .cell ∨ sc.names.lookup x = some .free
def Loc (sc : Scope) (x : Str) : Prop := sc.names.lookup x = some .local ∨ sc.names.lookup x = some .cell
def Look (env : Env) (h : Heap) (m : Str → Option Value) (x : Str) (u : Value) : Prop :=
  (env.kindOf x = some .local ∧ m x = some u) ∨ ((env.kindOf x = some .cell ∨ env.kindOf x = some .free) ∧ ∃ c, env.cells.lookup x = some c ∧ h.IsCell c (some u))
structure Cx.Ok (X : Cx) : Prop where
  mod : Mod X.K X.mg X.base
  kind : X.env.scope.kind = .function
  glob : X.env.globals = mainGlobals
  blt : X.env.builtins = builtinsNs
  above : X.s₀.heap.objs.size ≤ X.env.locals
  inj : ∀ x y c, X.env.cells.lookup x = some c → X.env.cells.lookup y = some c → x = y
  has : ∀ x, (X.env.kindOf x = some .cell ∨ X.env.kindOf x = some .free) → ∃ c, X.env.cells.lookup x = some c
  cab : ∀ x c, X.fn x = true → X.env.cells.lookup x = some c → X.s₀.heap.objs.size ≤ c
  hd : X.calm = true → X.A.handled = none
  frames : X.A.frames = some X.stack
  stk : X.stack = X.outer ∨ (X.stack = X.env :: X.outer ∧ X.env.frame = some X.env.locals)
  exf : ∀ b ∈ X.ex, b ≠ X.env.locals ∧ ∀ x c, X.env.cells.lookup x = some c → c ≠ b
  bs : ∀ b o, X.base.get? b = some o → X.s₀.heap.get? b = some o ∧ X.H₀ b = none
  bsz : X.base.objs.size ≤ X.s₀.heap.objs.size
  noex : ∀ b o, X.base.get? b = some o → b ∉ X.ex
  exfs : ∀ b ∈ X.ex, b ∉ X.fs
  funs : X.s₀.heap.FunFrames X.base X.outer
  frf : ∀ b ∈ X.fs, X.H₀ b = none
structure Inv (X : Cx) (pins : List (Addr × Obj)) (σ : List (Option V)) (H : Hp) (s : Shared) : Prop where
  ok : X.Ok
  os : s.os = X.s₀.os
  bare : AllBare s.gens
  base : Un X.fs X.ex X.H₀ H X.s₀.heap s.heap
  loc : ∃ m, s.heap.Ns X.env.locals m ∧ ∀ (i : Nat) (x : Str) (v : V), X.N[i]? = some x → σ[i]? = some (some v) → Vis X.env.scope x → ∃ u, RelV v u ∧ Look X.env s.heap m x u
  cell : ∀ x c, X.env.cells.lookup x = some c → ∃ v, s.heap.IsCell c v
  free : H X.env.locals = none
  freeC : ∀ x c, X.env.cells.lookup x = some c → H c = none
  pin : ∀ p ∈ X.pn ++ pins, s.heap.get? p.1 = some p.2 ∧ H p.1 = none ∧ p.1 ≠ X.env.locals ∧ p.1 ∉ X.fs ∧ ∀ v, p.2.data ≠ .cell v
  hok : HOk X.prog X.w H s.heap
  len : σ.length = X.N.length
section
variable {X : Cx} {pins : List (Addr × Obj)} {σ : List (Option V)} {H H' : Hp} {s : Shared} {h' : Heap}
theorem Cx.Ok.nofr (ok : X.Ok) {b : Addr} {o : Obj} (e : X.base.get? b = some o) : b ∉ X.fs := fun hb => by
  have := (ok.funs.mem hb).1
  rw [e] at this; cases this
theorem Inv.bs (I : Inv X pins σ H s) : ∀ b o, X.base.get? b = some o → s.heap.get? b = some o ∧ H b = none := fun b o e =>
  ⟨I.base.keep b o (I.ok.bs b o e).1 (I.ok.bs b o e).2 (I.ok.nofr e) (I.ok.noex b o e), I.base.free b o (I.ok.bs b o e).1 (I.ok.bs b o e).2 (I.ok.noex b o e)⟩
theorem Inv.bk (I : Inv X pins σ H s) : ∀ b o, X.base.get? b = some o → s.heap.get? b = some o := fun b o e => (I.bs b o e).1
theorem Inv.mod (I : Inv X pins σ H s) : Mod X.K X.mg X.base := I.ok.mod
theorem Inv.kIn (I : Inv X pins σ H s) : X.K.In s.heap := I.ok.mod.kin.keeps I.bk
theorem Inv.fr (I : Inv X pins σ H s) : ∃ m, Fr X.base X.env.locals s.heap m :=
  let ⟨m, hn, _⟩ := I.loc
  ⟨m, hn, I.bk, Nat.le_trans I.ok.bsz I.ok.above⟩
theorem Inv.lt (I : Inv X pins σ H s) : X.env.locals < s.heap.objs.size := let ⟨_, hn, _⟩ := I.loc; hn.lt
theorem Inv.sz (I : Inv X pins σ H s) : X.s₀.heap.objs.size ≤ s.heap.objs.size := Nat.le_trans I.ok.above (Nat.le_of_lt I.lt)
theorem Inv.nofs (I : Inv X pins σ H s) {a : Addr} (h : s.heap.objs.size ≤ a) : a ∉ X.fs := fun hb => by
  obtain ⟨_, o, ho, _⟩ := I.ok.funs.mem hb
  exact absurd (Nat.lt_of_lt_of_le (Heap.lt_size ho) (Nat.le_trans I.sz h)) (Nat.lt_irrefl _)
theorem Inv.cne (I : Inv X pins σ H s) : ∀ x c, X.env.cells.lookup x = some c → c ≠ X.env.locals := fun x c e z => by
  obtain ⟨v, o, ho, hd⟩ := I.cell x c e
  obtain ⟨m, ⟨o', es, ep, ho', hd', _⟩, _⟩ := I.loc
  rw [z, ho'] at ho; cases ho; rw [hd'] at hd; cases hd
theorem Inv.funs (I : Inv X pins σ H s) : s.heap.FunFrames X.base X.outer := by
  have all : ∀ (l : List Env), (∀ b ∈ frs l, b ∈ X.fs) → X.s₀.heap.FunFrames X.base l → s.heap.FunFrames X.base l := by
    intro l
    induction l with
    | nil => intro _ _; trivial
    | cons env r ih =>
      intro hs hl
      obtain ⟨hk, ⟨L, o, hf, hn, ho, hd⟩, hr⟩ := hl
      have hL : L ∈ X.fs := hs L (by unfold frs; rw [List.filterMap_cons, hf]; exact List.mem_cons_self)
      obtain ⟨sl, e⟩ := I.base.slot L o ho (I.ok.frf L hL) hL fun z => I.ok.exfs L z hL
      exact ⟨hk, ⟨L, _, hf, hn, e, hd⟩, ih (fun b hb => hs b (by unfold frs; rw [List.filterMap_cons, hf]; exact List.mem_cons_of_mem _ hb)) hr⟩
  exact all X.outer (fun _ hb => hb) I.ok.funs
theorem Inv.stack (I : Inv X pins σ H s) : s.heap.FunFrames X.base X.stack := by
  rcases I.ok.stk with e | ⟨e, hf⟩
  · rw [e]; exact I.funs
  · rw [e]
    obtain ⟨m, hn, _⟩ := I.loc
    refine .cons (by rw [I.ok.kind]; decide) hf hn ?_ I.funs
    exact Heap.get?_none_of_le (Nat.le_trans I.ok.bsz I.ok.above)
theorem Inv.stkSub (I : Inv X pins σ H s) : ∀ b ∈ frs X.stack, b ∈ X.env.locals :: X.fs := fun b hb => by
  rcases I.ok.stk with e | ⟨e, hf⟩
  · rw [e] at hb; exact List.mem_cons_of_mem _ hb
  · rw [e] at hb
    unfold frs at hb
    rw [List.filterMap_cons, hf] at hb
    exact hb
theorem Inv.stkFree (I : Inv X pins σ H s) : ∀ b ∈ frs X.stack, H b = none := fun b hb => by
  rcases List.mem_cons.mp (I.stkSub b hb) with e | hb
  · rw [e]; exact I.free
  · obtain ⟨_, o, ho, _⟩ := I.ok.funs.mem hb
    exact I.base.free b o ho (I.ok.frf b hb) fun z => I.ok.exfs b z hb
theorem Inv.step {g' : Array GenState} {t' : Nat} {d' : Drawn} {ch : List Addr} (I : Inv X pins σ H s)
    (hch : ∀ b ∈ ch, (b ∈ X.ex ∨ X.s₀.heap.objs.size ≤ b) ∧ b ≠ X.env.locals ∧ (∀ x c, X.env.cells.lookup x = some c → c ≠ b) ∧ ∀ p ∈ X.pn ++ pins, p.1 ≠ b)
    (keep : ∀ b o, b ≠ X.env.locals → b ∉ X.fs → b ∉ ch → s.heap.get? b = some o → H b = none → h'.get? b = some o)
    (slot : ∀ b o, b ≠ X.env.locals → b ∈ X.fs → b ∉ ch → s.heap.get? b = some o → H b = none → ∃ sl, h'.get? b = some { o with slots := sl }) (free : ∀ b o, b ∉ ch → s.heap.get? b = some o → H b = none → H' b = none)
    (there : ∀ b o, b ∉ ch → s.heap.get? b = some o → ∃ o', h'.get? b = some o')
    (tups : ∀ b xs, H b = some (.tup xs) → H' b = some (.tup xs)) (frzs : ∀ b o u, H b = some (.frz o u) → H' b = some (.frz o u)) (tbls : ∀ b ps, H b = some (.tbl ps) → ∃ more, H' b = some (.tbl (ps ++ more)))
    (ns : ∀ m, s.heap.Ns X.env.locals m → h'.Ns X.env.locals m) (hok : HOk X.prog X.w H' h') (hg : AllBare g') :
    Inv X pins σ H' { s with heap := h', gens := g', drawn := d', toks := t' } := by
  have neL : ∀ b o, X.s₀.heap.get? b = some o → b ≠ X.env.locals := fun b o e => Nat.ne_of_lt (Nat.lt_of_lt_of_le (Heap.lt_size e) I.ok.above)
  have neC : ∀ b o, X.s₀.heap.get? b = some o → b ∉ X.ex → b ∉ ch := fun b o e hx hb => by
    rcases (hch b hb).1 with z | z
    · exact hx z
    · exact absurd (Nat.lt_of_lt_of_le (Heap.lt_size e) z) (Nat.lt_irrefl _)
  have cellK : ∀ x c, X.env.cells.lookup x = some c → ∀ v, s.heap.IsCell c v → h'.IsCell c v := fun x c e v ⟨o, ho, hd⟩ => by
    have nch : c ∉ ch := fun z => (hch c z).2.2.1 x c e rfl
    by_cases hc : c ∈ X.fs
    · obtain ⟨sl, q⟩ := slot c o (I.cne x c e) hc nch ho (I.freeC x c e)
      exact ⟨_, q, hd⟩
    · exact ⟨o, keep c o (I.cne x c e) hc nch ho (I.freeC x c e), hd⟩
  refine ⟨I.ok, I.os, hg, ⟨fun b o e n hb hx => ?_, fun b o e n hb hx => ?_, fun b o e n hx => ?_, fun b o e hx => ?_, fun b xs e => tups b xs (I.base.tups b xs e), fun b o xs e => frzs b o xs (I.base.frzs b o xs e), fun b ps e => ?_⟩, ?_, fun x c e => ?_, ?_, fun x c e => ?_, fun p hp => ?_, hok, I.len⟩
  · exact keep b o (neL b o e) hb (neC b o e hx) (I.base.keep b o e n hb hx) (I.base.free b o e n hx)
  · obtain ⟨sl, e1⟩ := I.base.slot b o e n hb hx
    obtain ⟨sl', e2⟩ := slot b _ (neL b o e) hb (neC b o e hx) e1 (I.base.free b o e n hx)
    exact ⟨sl', e2⟩
  · obtain ⟨o', e1⟩ := I.base.there b o e hx
    exact free b o' (neC b o e hx) e1 (I.base.free b o e n hx)
  · obtain ⟨o', e1⟩ := I.base.there b o e hx
    exact there b o' (neC b o e hx) e1
  · obtain ⟨m1, e1⟩ := I.base.tbls b ps e
    obtain ⟨m2, e2⟩ := tbls b _ e1
    exact ⟨m1 ++ m2, by rw [e2, Array.append_assoc]⟩
  · obtain ⟨m, hn, hl⟩ := I.loc
    refine ⟨m, ns m hn, fun i x v e1 e2 e3 => ?_⟩
    obtain ⟨u, r, l⟩ := hl i x v e1 e2 e3
    refine ⟨u, r, ?_⟩
    rcases l with l | ⟨k, c, e, z⟩
    · exact .inl l
    · exact .inr ⟨k, c, e, cellK x c e _ z⟩
  · obtain ⟨v, z⟩ := I.cell x c e
    exact ⟨v, cellK x c e v z⟩
  · obtain ⟨m, ⟨o, _, _, ho, _⟩, _⟩ := I.loc
    exact free _ o (fun z => (hch _ z).2.1 rfl) ho I.free
  · obtain ⟨v, o, ho, hd⟩ := I.cell x c e
    exact free c o (fun z => (hch c z).2.2.1 x c e rfl) ho (I.freeC x c e)
  · obtain ⟨e, n, ne, nf, d⟩ := I.pin p hp
    have nch : p.1 ∉ ch := fun z => (hch p.1 z).2.2.2 p hp rfl
    exact ⟨keep p.1 p.2 ne nf nch e n, free p.1 p.2 nch e n, ne, nf, d⟩
theorem Inv.un {t' : Nat} (I : Inv X pins σ H s) (u : Un X.fs [] H H' s.heap h') (hok : HOk X.prog X.w H' h') : Inv X pins σ H' { s with heap := h', toks := t' } := by
  obtain ⟨m, ⟨o, es, ep, ho, r⟩, _⟩ := id I.loc
  obtain ⟨sl, hL⟩ := u.any ho I.free (by simp)
  exact I.step (g' := s.gens) (d' := s.drawn) (ch := []) (fun _ z => nomatch z) (fun b o _ hb _ e n => u.keep b o e n hb (by simp)) (fun b o _ hb _ e n => u.slot b o e n hb (by simp)) (fun b o _ e n => u.free b o e n (by simp)) (fun b o _ e => u.there b o e (by simp)) u.tups u.frzs u.tbls (fun m' hm => by
    obtain ⟨o', es', ep', ho', r'⟩ := hm
    rw [ho] at ho'; cases ho'
    exact ⟨_, es', ep', hL, r'⟩) hok I.bare
theorem Inv.call {g' : Array GenState} {t' : Nat} {d' : Drawn} {ch : List Addr} (I : Inv X pins σ H s) (u : Un (frs X.stack) ch H H' s.heap h') (hok : HOk X.prog X.w H' h') (hg : AllBare g')
    (hch : ∀ b ∈ ch, (b ∈ X.ex ∨ X.s₀.heap.objs.size ≤ b) ∧ b ≠ X.env.locals ∧ (∀ x c, X.env.cells.lookup x = some c → c ≠ b) ∧ ∀ p ∈ X.pn ++ pins, p.1 ≠ b) :
    Inv X pins σ H' { s with heap := h', gens := g', drawn := d', toks := t' } := by
  obtain ⟨m, ⟨o, es, ep, ho, r⟩, _⟩ := id I.loc
  obtain ⟨sl, hL⟩ := u.any ho I.free fun z => (hch _ z).2.1 rfl
  exact I.step (ch := ch) hch (fun b o hL hb hc e n => u.keep b o e n (fun z => (List.mem_cons.mp (I.stkSub b z)).elim hL hb) hc) (fun b o _ _ hc e n => u.any e n hc) (fun b o hc e n => u.free b o e n hc) (fun b o hc e => u.there b o e hc) u.tups u.frzs u.tbls (fun m' hm => by
    obtain ⟨o', es', ep', ho', r'⟩ := hm
    rw [ho] at ho'; cases ho'
    exact ⟨_, es', ep', hL, r'⟩) hok hg
theorem Inv.turned {t' : Nat} {it : Addr} (I : Inv X pins σ H s) (k : ∀ b o, b ≠ it → s.heap.get? b = some o → h'.get? b = some o) (hn : H it = none) (hL : it ≠ X.env.locals)
    (h1 : it ∈ X.ex ∨ X.s₀.heap.objs.size ≤ it) (h2 : ∀ x c, X.env.cells.lookup x = some c → c ≠ it) (h3 : ∀ p ∈ X.pn ++ pins, p.1 ≠ it) : Inv X pins σ H { s with heap := h', toks := t' } := by
  have nit : ∀ b u, H b = some u → b ≠ it := fun b u e z => by rw [z, hn] at e; cases e
  refine I.step (g' := s.gens) (d' := s.drawn) (ch := [it]) (fun b hb => ?_) (fun b o _ _ hc e _ => k b o (fun z => hc (by simp [z])) e) (fun b o _ _ hc e _ => ⟨o.slots, k b o (fun z => hc (by simp [z])) e⟩) (fun _ _ _ _ n => n)
    (fun b o hc e => ⟨o, k b o (fun z => hc (by simp [z])) e⟩) (fun _ _ e => e) (fun _ _ _ e => e) (fun b ps e => ⟨#[], by rw [e]; simp⟩) (fun m hm => ?_) (fun b u e => ?_) I.bare
  · have e : b = it := by simpa using hb
    subst e
    exact ⟨h1, hL, h2, h3⟩
  · obtain ⟨o, es, ep, ho, r⟩ := hm
    exact ⟨o, es, ep, k _ o (Ne.symm hL) ho, r⟩
  · refine (I.hok b u e).stay (fun c v hc q => k c v ?_ q) (fun _ q => q) fun _ _ q => q
    rcases hc with z | z
    · rw [z]; exact nit b u e
    · exact nit c _ z
theorem Inv.tok (I : Inv X pins σ H s) (t : Nat) : Inv X pins σ H { s with toks := t } := I.un (h' := s.heap) (t' := t) Un.refl I.hok
theorem Inv.kept {t' : Nat} (I : Inv X pins σ H s) (k : ∀ b u, s.heap.get? b = some u → h'.get? b = some u) : Inv X pins σ H { s with heap := h', toks := t' } := I.un (Un.kept k) (I.hok.kept k)
theorem Inv.laid {a : Addr} {o : HO} {t' : Nat} (I : Inv X pins σ H s) (k : ∀ b u, s.heap.get? b = some u → h'.get? b = some u) (hp : s.heap.objs.size ≤ a) (new : ObjOk X.prog X.w (upd H a o) h' a o) :
    Inv X pins σ (upd H a o) { s with heap := h', toks := t' } := I.un (Un.laid k hp (I.hok.fresh hp)) (I.hok.laid k hp new)
theorem Inv.write {x e : Addr} {o : HO} {t' : Nat} (I : Inv X pins σ H s) (mu : Mut (H x)) (he : e = x ∨ H e = some (.own x)) (k : ∀ b u, b ≠ e → s.heap.get? b = some u → h'.get? b = some u) (heo : ∃ u, h'.get? e = some u)
    (new : ObjOk X.prog X.w (upd H x o) h' x o) : Inv X pins σ (upd H x o) { s with heap := h', toks := t' } := I.un (Un.write mu he k heo) (I.hok.write mu he k heo new)
theorem Inv.weak {σ' : List (Option V)} (I : Inv X pins σ H s) (hl : σ'.length = σ.length) (w : ∀ (i : Nat) v, σ'[i]? = some (some v) → σ[i]? = some (some v)) : Inv X pins σ' H s :=
  ⟨I.ok, I.os, I.bare, I.base, let ⟨m, hn, hl'⟩ := I.loc; ⟨m, hn, fun i x v e1 e2 e3 => hl' i x v e1 (w i v e2) e3⟩, I.cell, I.free, I.freeC, I.pin, I.hok, hl.trans I.len⟩
theorem Inv.pins_of {pins' : List (Addr × Obj)} (I : Inv X pins σ H s) (h : ∀ p ∈ pins', s.heap.get? p.1 = some p.2 ∧ H p.1 = none ∧ p.1 ≠ X.env.locals ∧ p.1 ∉ X.fs ∧ ∀ v, p.2.data ≠ .cell v) : Inv X pins' σ H s :=
  ⟨I.ok, I.os, I.bare, I.base, I.loc, I.cell, I.free, I.freeC, fun p hp => (List.mem_append.mp hp).elim (fun z => I.pin p (List.mem_append_left _ z)) (h p), I.hok, I.len⟩
theorem nodup_ix {N : List Str} (hN : N.Nodup) {i j : Nat} {x : Str} (a : N[i]? = some x) (b : N[j]? = some x) : i = j := by
  obtain ⟨h1, e1⟩ := List.getElem?_eq_some_iff.mp a
  obtain ⟨h2, e2⟩ := List.getElem?_eq_some_iff.mp b
  exact (List.getElem_inj hN).mp (e1.trans e2.symm)
theorem store_ok2 {M : Model} {A : Around} {E : Value → Shared → Prop} {i : Nat} {x : Str} {v : V} {u : Value} {Q : Unit → Shared → Prop} (I : Inv X pins σ H s) (hN : X.N.Nodup) (hi : X.N[i]? = some x) (hx : Loc X.env.scope x) (r : RelV v u)
    (h : ∀ s', Inv X pins (σ.set i (some v)) H s' → (∃ a, Heap.SameBut a s.heap s'.heap ∧ (a = X.env.locals ∨ X.env.cells.lookup x = some a)) → Q () s') (hf : X.fn x = true ∨ X.env.scope.names.lookup x = some .local := by first | exact .inl rfl | exact .inr rfl | assumption) : wpAny M A (storeName X.env x u) Q E s := by
  obtain ⟨m, hn, hl⟩ := id I.loc
  have hcls : (X.env.scope.kind == .class || (X.env.scope.kind == .module && X.env.locals != X.env.globals)) = false := by rw [I.ok.kind]; rfl
  have hiσ : i < σ.length := by rw [I.len]; exact (List.getElem?_eq_some_iff.mp hi).1
  have cne := I.cne
  have tracked : ∀ {a : Addr} {h' : Heap}, (∃ o, s.heap.get? a = some o ∧ H a = none) → Heap.SameBut a s.heap h' → HOk X.prog X.w H h' := fun {a h'} ha hs b ob e => by
    obtain ⟨_, _, hfree⟩ := ha
    refine (I.hok b ob e).stay (fun c w' hc q => (hs.2 c ?_).trans q) (fun _ q => q) fun _ _ q => q
    rintro rfl
    rcases hc with rfl | hc
    · rw [hfree] at e; cases e
    · rw [hfree] at hc; cases hc
  rcases hx with hk | hk
  · refine wpAny_storeName_local hk hn (fun h' hn' hs => ?_) hcls
    obtain ⟨oL, _, _, hoL, _⟩ := id hn
    refine h _ ⟨I.ok, I.os, I.bare, ⟨fun b o e n hb hx => ?_, fun b o e n hb hx => ?_, I.base.free, fun b o e hx => ?_, I.base.tups, I.base.frzs, I.base.tbls⟩, ⟨_, hn', fun j y v' e1 e2 e3 => ?_⟩, fun y c e => ?_, I.free, I.freeC, fun p hp => ?_, tracked ⟨oL, hoL, I.free⟩ hs, by simpa using I.len⟩ ⟨_, hs, .inl rfl⟩
    · exact (hs.2 b (Nat.ne_of_lt (Nat.lt_of_lt_of_le (Heap.lt_size e) I.ok.above))).trans (I.base.keep b o e n hb hx)
    · obtain ⟨sl, e1⟩ := I.base.slot b o e n hb hx
      exact ⟨sl, (hs.2 b (Nat.ne_of_lt (Nat.lt_of_lt_of_le (Heap.lt_size e) I.ok.above))).trans e1⟩
    · obtain ⟨o', e1⟩ := I.base.there b o e hx
      exact ⟨o', (hs.2 b (Nat.ne_of_lt (Nat.lt_of_lt_of_le (Heap.lt_size e) I.ok.above))).trans e1⟩
    · by_cases hj : j = i
      · subst hj
        rw [hi] at e1; cases e1
        rw [List.getElem?_set_self hiσ] at e2
        cases e2
        exact ⟨u, r, .inl ⟨hk, by simp⟩⟩
      · rw [List.getElem?_set_ne (Ne.symm hj)] at e2
        obtain ⟨u', r', q⟩ := hl j y v' e1 e2 e3
        refine ⟨u', r', ?_⟩
        rcases q with ⟨k, e⟩ | ⟨k, c, e, z⟩
        · refine .inl ⟨k, ?_⟩
          have : y ≠ x := fun e => hj (nodup_ix hN e1 (e ▸ hi))
          simp [this, e]
        · exact .inr ⟨k, c, e, z.sameBut hs (cne y c e)⟩
    · obtain ⟨w', z⟩ := I.cell y c e
      exact ⟨w', z.sameBut hs (cne y c e)⟩
    · obtain ⟨e, n, ne, nf, d⟩ := I.pin p hp
      exact ⟨(hs.2 p.1 ne).trans e, n, ne, nf, d⟩
  · have hfn : X.fn x = true := by
      rcases hf with z | z
      · exact z
      · rw [z] at hk; cases hk
    obtain ⟨c, hc⟩ := I.ok.has x (.inl hk)
    obtain ⟨w', z⟩ := I.cell x c hc
    refine wpAny_storeName_cell I.ok.kind hk hc z (fun h' hc' hs => ?_)
    obtain ⟨oc, hoc, hocd⟩ := id z
    refine h { s with heap := h' } ⟨I.ok, I.os, I.bare, ⟨fun b o e n hb hx => ?_, fun b o e n hb hx => ?_, I.base.free, fun b o e hx => ?_, I.base.tups, I.base.frzs, I.base.tbls⟩, ⟨m, hn.sameBut hs (Ne.symm (cne x c hc)), fun j y v' e1 e2 e3 => ?_⟩, fun y c' e => ?_, I.free, I.freeC, fun p hp => ?_, tracked ⟨oc, hoc, I.freeC x c hc⟩ hs, by simpa using I.len⟩ ⟨c, hs, .inr hc⟩
    · exact (hs.2 b (Nat.ne_of_lt (Nat.lt_of_lt_of_le (Heap.lt_size e) (I.ok.cab x c hfn hc)))).trans (I.base.keep b o e n hb hx)
    · obtain ⟨sl, e1⟩ := I.base.slot b o e n hb hx
      exact ⟨sl, (hs.2 b (Nat.ne_of_lt (Nat.lt_of_lt_of_le (Heap.lt_size e) (I.ok.cab x c hfn hc)))).trans e1⟩
    · obtain ⟨o', e1⟩ := I.base.there b o e hx
      exact ⟨o', (hs.2 b (Nat.ne_of_lt (Nat.lt_of_lt_of_le (Heap.lt_size e) (I.ok.cab x c hfn hc)))).trans e1⟩
    · by_cases hj : j = i
      · subst hj
        rw [hi] at e1; cases e1
        rw [List.getElem?_set_self hiσ] at e2
        cases e2
        exact ⟨u, r, .inr ⟨.inl hk, c, hc, hc'⟩⟩
      · rw [List.getElem?_set_ne (Ne.symm hj)] at e2
        obtain ⟨u', r', q⟩ := hl j y v' e1 e2 e3
        refine ⟨u', r', ?_⟩
        rcases q with q | ⟨k, c', e, z'⟩
        · exact .inl q
        · refine .inr ⟨k, c', e, z'.sameBut hs ?_⟩
          rintro rfl
          exact hj (nodup_ix hN e1 (I.ok.inj _ _ _ e hc ▸ hi))
    · by_cases hcc : c' = c
      · subst hcc; exact ⟨_, hc'⟩
      · obtain ⟨w2, z2⟩ := I.cell y c' e
        exact ⟨w2, z2.sameBut hs hcc⟩
    · obtain ⟨e, n, ne, nf, d⟩ := I.pin p hp
      refine ⟨(hs.2 p.1 ?_).trans e, n, ne, nf, d⟩
      intro q
      rw [q, hoc] at e
      have q' : oc = p.2 := Option.some.inj e
      exact d w' (by rw [← q']; exact hocd)
theorem store_ok {M : Model} {A : Around} {E : Value → Shared → Prop} {i : Nat} {x : Str} {v : V} {u : Value} {Q : Unit → Shared → Prop} (I : Inv X pins σ H s) (hN : X.N.Nodup) (hi : X.N[i]? = some x) (hx : Loc X.env.scope x) (r : RelV v u)
    (h : ∀ s', Inv X pins (σ.set i (some v)) H s' → Q () s') (hf : X.fn x = true ∨ X.env.scope.names.lookup x = some .local := by first | exact .inl rfl | exact .inr rfl | assumption) : wpAny M A (storeName X.env x u) Q E s :=
  store_ok2 I hN hi hx r (fun s' I' _ => h s' I') hf
theorem Inv.call' {s' : Shared} {ch : List Addr} (I : Inv X pins σ H s) (ho : s'.os = s.os) (u : Un (frs X.stack) ch H H' s.heap s'.heap) (hok : HOk X.prog X.w H' s'.heap) (hg : AllBare s'.gens)
    (hch : ∀ b ∈ ch, (b ∈ X.ex ∨ X.s₀.heap.objs.size ≤ b) ∧ b ≠ X.env.locals ∧ (∀ x c, X.env.cells.lookup x = some c → c ≠ b) ∧ ∀ p ∈ X.pn ++ pins, p.1 ≠ b) : Inv X pins σ H' s' := by
  obtain ⟨h', g', d', t', o'⟩ := s'
  have e : o' = s.os := ho
  subst e
  exact I.call (g' := g') (t' := t') (d' := d') u hok hg hch
end
abbrev XK := Value → Option Addr → Hp → Prop
abbrev St := List (Option V)
abbrev VK := V → Hp → Prop
abbrev TE := St → Hp → VK → Prop
abbrev TT := St → Hp → (Bool → Hp → Prop) → Prop
abbrev TA := St → Hp → (List V → Hp → Prop) → Prop
structure Ends where
  nx : St → Hp → Prop
  rt : VK
  bk : St → Hp → Prop := fun _ _ => False
  ct : St → Hp → Prop := fun _ _ => False
abbrev TS := Ends → St → Hp → Prop
def EP (X : Cx) (pins : List (Addr × Obj)) (σ : St) (Q : VK) (u : Value) (s' : Shared) : Prop := ∃ v H', Inv X pins σ H' s' ∧ RelV v u ∧ Q v H'
def TP (X : Cx) (pins : List (Addr × Obj)) (σ : St) (Q : Bool → Hp → Prop) (b : Bool) (s' : Shared) : Prop := ∃ H', Inv X pins σ H' s' ∧ Q b H'
def AP (X : Cx) (pins : List (Addr × Obj)) (σ : St) (Q : List V → Hp → Prop) (us : List Value) (s' : Shared) : Prop := ∃ vs H', Inv X pins σ H' s' ∧ Vals vs us ∧ Q vs H'
def SP (X : Cx) (pins : List (Addr × Obj)) (D : Ends) (f : Flow) (s' : Shared) : Prop :=
  match f with
  | .next => ∃ σ' H', Inv X pins σ' H' s' ∧ D.nx σ' H'
  | .brk => ∃ σ' H', Inv X pins σ' H' s' ∧ D.bk σ' H'
  | .cont => ∃ σ' H', Inv X pins σ' H' s' ∧ D.ct σ' H'
  | .ret u => ∃ v σ' H', Inv X pins σ' H' s' ∧ RelV v u ∧ D.rt v H'
def PE (X : Cx) (e : Expr) (t : TE) : Prop :=
  ∀ (pins : List (Addr × Obj)) (s : Shared) (σ : St) (H : Hp) (Q : VK), Inv X pins σ H s → t σ H Q → wpAny (model X.prog X.w) X.A (eval e X.env) (EP X pins σ Q) X.xe s
def PT (X : Cx) (e : Expr) (t : TT) : Prop :=
  ∀ (pins : List (Addr × Obj)) (s : Shared) (σ : St) (H : Hp) (Q : Bool → Hp → Prop), Inv X pins σ H s → t σ H Q → wpAny (model X.prog X.w) X.A (isTrue e X.env (eval e X.env)) (TP X pins σ Q) X.xe s
def PW (X : Cx) (e : Expr) (t : TT) : Prop :=
  ∀ (whole : Sem Value) (pins : List (Addr × Obj)) (s : Shared) (σ : St) (H : Hp) (Q : Bool → Hp → Prop), Inv X pins σ H s → t σ H Q → wpAny (model X.prog X.w) X.A (isTrue e X.env whole) (TP X pins σ Q) X.xe s
theorem PW.pt {X : Cx} {e : Expr} {t : TT} (h : PW X e t) : PT X e t := h _
def PA (X : Cx) (es : List Expr) (t : TA) : Prop :=
  ∀ (pos : Pos) (pins : List (Addr × Obj)) (s : Shared) (σ : St) (H : Hp) (Q : List V → Hp → Prop), Inv X pins σ H s → t σ H Q → wpAny (model X.prog X.w) X.A (spliced (backTo pos (starEach es X.env))) (AP X pins σ Q) X.xe s
def PS (X : Cx) (st : Stmt) (t : TS) : Prop :=
  ∀ (pins : List (Addr × Obj)) (s : Shared) (σ : St) (H : Hp) (D : Ends), Inv X pins σ H s → t D σ H → wpAny (model X.prog X.w) X.A (exec st X.env) (SP X pins D) X.xe s
def PSs (X : Cx) (st : List Stmt) (t : TS) : Prop :=
  ∀ (pins : List (Addr × Obj)) (s : Shared) (σ : St) (H : Hp) (D : Ends), Inv X pins σ H s → t D σ H → wpAny (model X.prog X.w) X.A (execs st X.env) (SP X pins D) X.xe s
theorem thn {α : Type} {t : Sem α} {Q Q' : α → Shared → Prop} {M : Model} {A : Around} {E : Value → Shared → Prop} {s : Shared} (h : wpAny M A t Q E s) (hQ : ∀ a s, Q a s → Q' a s) : wpAny M A t Q' E s := wpAny_mono h hQ fun _ _ x => x
end L2
namespace L2
open PySem PySem.Spec PyProof.Rows
section
variable {X : Cx}
theorem bin {a b : Expr} {ta tb : TE} (ha : PE X a ta) (hb : PE X b tb) {pins : List (Addr × Obj)} {s : Shared} {σ : St} {H : Hp} {R : V → V → Hp → Prop} (I : Inv X pins σ H s) (h : ta σ H fun x H1 => tb σ H1 fun y H2 => R x y H2)
    {α : Type} {Q : α → Shared → Prop} {f : Value → Value → Sem α}
    (hf : ∀ v u s2 x y H2, Inv X pins σ H2 s2 → RelV x v → RelV y u → R x y H2 → wpAny (model X.prog X.w) X.A (f v u) Q X.xe s2) :
    wpAny (model X.prog X.w) X.A (eval a X.env) (fun v s₁ => wpAny (model X.prog X.w) X.A (eval b X.env) (fun u s₂ => wpAny (model X.prog X.w) X.A (f v u) Q X.xe s₂) X.xe s₁) X.xe s := by
  refine thn (ha pins s σ H _ I h) fun v s1 ⟨x, H1, I1, r1, q1⟩ => ?_
  refine thn (hb pins s1 σ H1 _ I1 q1) fun u s2 ⟨y, H2, I2, r2, q2⟩ => ?_
  exact hf v u s2 x y H2 I2 r1 r2 q2
def tVar (i : Nat) : TE := fun σ H Q => ∃ v, σ[i]? = some (some v) ∧ Q v H
def tC (v : V) : TE := fun _ H Q => Q v H
theorem pe_var {i : Nat} {x : Str} {pos : Pos} (hN : X.N[i]? = some x) (hv : Vis X.env.scope x) (hd : (x == ("__debug__" : Str)) = false := by decide) (hcd : (x == ("__classdict__" : Str)) = false := by decide) : PE X (.Name x pos) (tVar i) := by
  intro pins s σ H Q I h
  obtain ⟨v, e, h⟩ := h
  obtain ⟨m, hn, hl⟩ := I.loc
  obtain ⟨u, r, l⟩ := hl i x v hN e hv
  have fin : EP X pins σ Q u s := ⟨v, H, I, r, h⟩
  rcases l with ⟨hk, hm⟩ | ⟨hk, c, hc, hcell⟩
  · exact wpAny_Name (wpAny_loadName_local I.ok.kind hk hn hm fin) hd
  · rcases hk with hk | hk
    · exact wpAny_Name (wpAny_loadName_cell I.ok.kind hk hc hcell fin) hd
    · exact wpAny_Name (wpAny_loadName_free I.ok.kind hk hc hcell fin hcd) hd
theorem pe_int {i j pos} : PE X (.Constant (.int i) j pos) (tC (.int i)) := fun _ _ _ H _ I h => wpAny_Constant_int ⟨.int i, H, I.tok _, ⟨_, rfl⟩, h⟩
theorem pe_bl {b j pos} : PE X (.Constant (.bool b) j pos) (tC (.bl b)) := fun _ _ _ H _ I h => Constant_bool ⟨.bl b, H, I, rfl, h⟩
theorem pe_non {j pos} : PE X (.Constant .none j pos) (tC .non) := fun _ _ _ H _ I h => Constant_none ⟨.non, H, I, rfl, h⟩
theorem pe_str {x j pos} : PE X (.Constant (.str x) j pos) (tC (.str x)) := fun _ _ _ H _ I h => Calls.Constant_str ⟨.str x, H, I.tok _, ⟨_, rfl⟩, h⟩
def Gl (X : Cx) (x : Str) : Prop := X.env.kindOf x = some .globalImplicit
theorem ld_glob {E : Value → Shared → Prop} {pins : List (Addr × Obj)} {s : Shared} {σ : St} {H : Hp} {x : Str} {u : Value} {pos : Pos} {Q : Value → Shared → Prop} (I : Inv X pins σ H s) (hg : Gl X x) (hm : X.mg x = some u) (h : Q u s)
    (hd : (x == ("__debug__" : Str)) = false := by decide) : wpAny (model X.prog X.w) X.A (eval (.Name x pos) X.env) Q E s :=
  Calls.Name_function_global I.ok.kind hg (Calls.loadGlobal_global (by rw [I.ok.glob]; exact I.mod.glob.keeps I.bk) hm h) hd
theorem ld_blt {E : Value → Shared → Prop} {pins : List (Addr × Obj)} {s : Shared} {σ : St} {H : Hp} {x : Str} {u : Value} {pos : Pos} {Q : Value → Shared → Prop} (I : Inv X pins σ H s) (hg : Gl X x) (hm : X.mg x = none) (hv : bootBuiltins x = some u) (h : Q u s)
    (hn : x ≠ "__name__" := by decide) (hd : (x == ("__debug__" : Str)) = false := by decide) : wpAny (model X.prog X.w) X.A (eval (.Name x pos) X.env) Q E s := by
  obtain ⟨mb, h1, h2⟩ := I.mod.blt
  exact Calls.Name_function_global I.ok.kind hg (Calls.loadGlobal_builtin (by rw [I.ok.glob]; exact I.mod.glob.keeps I.bk) hm (by rw [I.ok.blt]; exact h1.keeps I.bk) ((h2 x hn).trans hv) h) hd
theorem pe_glob {x : Str} {v : V} {u : Value} {pos : Pos} (hg : Gl X x) (hm : X.mg x = some u) (r : RelV v u) (hd : (x == ("__debug__" : Str)) = false := by decide) : PE X (.Name x pos) (tC v) :=
  fun _ _ _ H _ I h => ld_glob I hg hm ⟨v, H, I, r, h⟩ hd
theorem pe_bltn {x : Str} {v : V} {u : Value} {pos : Pos} (hg : Gl X x) (hm : X.mg x = none) (hv : bootBuiltins x = some u) (r : RelV v u) (hn : x ≠ "__name__" := by decide) (hd : (x == ("__debug__" : Str)) = false := by decide) : PE X (.Name x pos) (tC v) :=
  fun _ _ _ H _ I h => ld_blt I hg hm hv ⟨v, H, I, r, h⟩ hn hd
variable {a b : Expr} {ta tb : TE} {pos : Pos}
def tB (t : TE) : TT := fun σ H Q => t σ H fun x H1 => ∃ c, x = .bl c ∧ Q c H1
def PC (X : Cx) (op : CmpOp) (a b : Expr) (t : TE) : Prop :=
  ∀ (pins : List (Addr × Obj)) (s : Shared) (σ : St) (H : Hp) (Q : VK), Inv X pins σ H s → t σ H Q →
    wpAny (model X.prog X.w) X.A (eval a X.env) (fun v s₁ => wpAny (model X.prog X.w) X.A (eval b X.env) (fun u s₂ => wpAny (model X.prog X.w) X.A (compareOp op v u) (EP X pins σ Q) X.xe s₂) X.xe s₁) X.xe s
theorem pt_cmp {op : CmpOp} {t : TE} (h : PC X op a b t) (h1 : behindInMarks op b = false := by first | exact nobehind _ (by decide) (by decide) | rfl) : PT X (.Compare a [op] [b] pos) (tB t) := by
  intro pins s σ H Q I hw
  refine wpAny_isTrue_Compare1 (thn (h pins s σ H _ I hw) fun v s1 h1 => thn h1 fun u s2 h2 => thn h2 fun c s3 ⟨x, H1, I1, r1, q1⟩ => ?_) h1
  obtain ⟨d, rfl, q⟩ := q1
  cases r1
  exact wpAny_truthy_bool ⟨H1, I1, q⟩
theorem pt_val {e : Expr} {t : TE} (h : PE X e t) (he : ∀ whole, isTrue e X.env whole = (do let v ← whole; standAt e.pos; holding [v] (truthy v)) := by intro _; rfl) : PT X e (tB t) := by
  intro pins s σ H Q I hw
  refine isTrue_plain (thn (h pins s σ H _ I hw) fun v s1 ⟨x, H1, I1, r1, q1⟩ => ?_) (he _)
  obtain ⟨d, rfl, q⟩ := q1
  cases r1
  exact wpAny_truthy_bool ⟨H1, I1, q⟩
variable {tA tB' : TT} {rest : List Expr}
def tAnd (t u : TT) : TT := fun σ H Q => t σ H fun c H1 => if c = true then u σ H1 Q else Q false H1
def tOr (t u : TT) : TT := fun σ H Q => t σ H fun c H1 => if c = true then Q true H1 else u σ H1 Q
def tNot (t : TT) : TT := fun σ H Q => t σ H fun c H1 => Q (!c) H1
theorem pw_and1 (ha : PT X a tA) : PW X (.BoolOp .And [a] pos) tA := by
  intro wh pins s σ H Q I h
  refine isTrue_and (thn (ha pins s σ H Q I h) fun c s1 e => ?_)
  cases c with
  | true => exact isTrue_and_nil e
  | false => exact e
theorem pw_or1 (ha : PT X a tA) : PW X (.BoolOp .Or [a] pos) tA := by
  intro wh pins s σ H Q I h
  refine isTrue_or (thn (ha pins s σ H Q I h) fun c s1 e => ?_)
  cases c with
  | false => exact isTrue_or_nil e
  | true => exact e
theorem pw_and (ha : PT X a tA) (hb : PW X (.BoolOp .And (b :: rest) pos) tB') : PW X (.BoolOp .And (a :: b :: rest) pos) (tAnd tA tB') := by
  intro wh pins s σ H Q I h
  refine isTrue_and (thn (ha pins s σ H _ I h) fun c s1 ⟨H1, I1, q1⟩ => ?_)
  cases c with
  | true => exact hb wh pins s1 σ H1 Q I1 q1
  | false => exact ⟨H1, I1, q1⟩
theorem pw_or (ha : PT X a tA) (hb : PW X (.BoolOp .Or (b :: rest) pos) tB') : PW X (.BoolOp .Or (a :: b :: rest) pos) (tOr tA tB') := by
  intro wh pins s σ H Q I h
  refine isTrue_or (thn (ha pins s σ H _ I h) fun c s1 ⟨H1, I1, q1⟩ => ?_)
  cases c with
  | true => exact ⟨H1, I1, q1⟩
  | false => exact hb wh pins s1 σ H1 Q I1 q1
theorem pt_not (ha : PT X a tA) : PT X (.UnaryOp .Not a pos) (tNot tA) := by
  intro pins s σ H Q I h
  exact isTrue_not (ha pins s σ H (fun c H1 => Q (!c) H1) I h)
def tAndV (ta tb : TE) : TE := fun σ H Q => ta σ H fun x H1 => ∃ c, x = .bl c ∧ if c = true then tb σ H1 Q else Q (.bl false) H1
def tNotV (ta : TE) : TE := fun σ H Q => ta σ H fun x H1 => ∃ c, x = .bl c ∧ Q (.bl (!c)) H1
theorem pe_one {op} {t : TE} (h : PE X a t) : PE X (.BoolOp op [a] pos) t := fun pins s σ H Q I hw => BoolOp_one (h pins s σ H Q I hw)
theorem pe_and (ha : PE X a ta) (hb : PE X (.BoolOp .And (b :: rest) pos) tb) : PE X (.BoolOp .And (a :: b :: rest) pos) (tAndV ta tb) := by
  intro pins s σ H Q I h
  refine BoolOp_and (thn (ha pins s σ H _ I h) fun v s1 ⟨x, H1, I1, r1, q1⟩ => ?_)
  obtain ⟨c, rfl, q1⟩ := q1
  cases r1
  refine wpAny_truthy_bool ?_
  cases c with
  | true => exact hb pins s1 σ H1 Q I1 q1
  | false => exact ⟨.bl false, H1, I1, rfl, q1⟩
theorem pe_not (ha : PE X a ta) : PE X (.UnaryOp .Not a pos) (tNotV ta) := by
  intro pins s σ H Q I h
  refine UnaryOp_ (thn (ha pins s σ H _ I h) fun v s1 ⟨x, H1, I1, r1, q1⟩ => ?_)
  obtain ⟨c, rfl, q1⟩ := q1
  cases r1
  exact not_of (wpAny_truthy_bool ⟨.bl (!c), H1, I1, rfl, q1⟩)
def tIf (t : TT) (ta tb : TE) : TE := fun σ H Q => t σ H fun c H1 => if c = true then ta σ H1 Q else tb σ H1 Q
theorem pe_ifExp {c : Expr} (hc : PT X c tA) (ha : PE X a ta) (hb : PE X b tb) : PE X (.IfExp c a b pos) (tIf tA ta tb) := by
  intro pins s σ H Q I h
  refine wpAny_IfExp (thn (hc pins s σ H _ I h) fun d s1 ⟨H1, I1, q1⟩ => ?_)
  cases d with
  | true => exact ha pins s1 σ H1 Q I1 q1
  | false => exact hb pins s1 σ H1 Q I1 q1
end
end L2
namespace L2
open PySem PySem.Spec PyProof.Rows
def SqL (K : PySem.W.Frag) (H : Hp) (a : Addr) (xs : List V) : Prop :=
  Rd H a (.lst xs) ∨
    ∃ (o : Obj) (its : Array Value) (n : Nat), K.lookup a = some o ∧ o.cls = .type "list" ∧ o.dict = none ∧ o.data = .seq its n ∧ its.size ≤ sizeLine ∧ Vals xs its.toList
def SqT (K : PySem.W.Frag) (H : Hp) (a : Addr) (xs : List V) : Prop :=
  Rd H a (.tup xs) ∨
    ∃ (o : Obj) (its : Array Value) (n : Nat), K.lookup a = some o ∧ o.cls = .type "tuple" ∧ o.data = .seq its n ∧ its.size ≤ sizeLine ∧ Vals xs its.toList
def absV : Value → Option V
  | .none => some .non
  | .bool b => some (.bl b)
  | .int i _ => some (.int i)
  | .str x _ => some (.str x)
  | .bytes b _ => some (.byt b)
  | .float b _ => some (.flt b)
  | .ref a => some (.ref a)
  | .type n => some (.ty n)
  | _ => none
theorem RelV.abs {x : V} {u : Value} (r : RelV x u) : absV u = some x := by
  cases x with
  | non => cases r; rfl
  | bl _ => cases r; rfl
  | int _ => obtain ⟨t, rfl⟩ := r; rfl
  | str _ => obtain ⟨t, rfl⟩ := r; rfl
  | byt _ => obtain ⟨t, rfl⟩ := r; rfl
  | flt _ => obtain ⟨t, rfl⟩ := r; rfl
  | ref _ => cases r; rfl
  | ty _ => cases r; rfl
theorem RelV.inj {x y : V} {u : Value} (r : RelV x u) (q : RelV y u) : x = y := Option.some.inj (r.abs.symm.trans q.abs)
theorem Vals.inj : ∀ {xs ys : List V} {us : List Value}, Vals xs us → Vals ys us → xs = ys
  | _, _, _, .nil, .nil => rfl
  | _, _, _, .cons r t, .cons r' t' => by rw [r.inj r', Vals.inj t t']
section
variable {X : Cx} {pins : List (Addr × Obj)} {σ : St} {H : Hp} {s : Shared} {a : Addr} {xs ys : List V}
theorem SqL.of {K : PySem.W.Frag} (h : H a = some (.lst xs)) : SqL K H a xs := .inl (.inl h)
theorem SqT.of {K : PySem.W.Frag} (h : H a = some (.tup xs)) : SqT K H a xs := .inl (.inl h)
theorem Inv.list (I : Inv X pins σ H s) (h : SqL X.K H a xs) : ∃ its : List Value, Vals xs its ∧ PlainL s.heap a its.toArray ∧ xs.length ≤ sizeLine := by
  rcases h with h | ⟨o, its, n, hk, hc, hd, hs, hz, r⟩
  · obtain ⟨z, its, n, r, e⟩ := h.ok I.hok
    exact ⟨its, r, ⟨_, n, e, rfl, rfl, rfl⟩, z⟩
  · refine ⟨its.toList, r, ⟨o, n, I.kIn a o hk, hc, hd, by simpa using hs⟩, ?_⟩
    have e := r.length
    simp only [Array.length_toList] at e
    omega
theorem Inv.tuple (I : Inv X pins σ H s) (h : SqT X.K H a xs) : ∃ its : List Value, Vals xs its ∧ IsTup s.heap a its.toArray ∧ xs.length ≤ sizeLine := by
  rcases h with h | ⟨o, its, n, hk, hc, hs, hz, r⟩
  · obtain ⟨z, its, r, p⟩ := h.ok I.hok
    exact ⟨its, r, p, z⟩
  · refine ⟨its.toList, r, ⟨o, I.kIn a o hk, hc, n, by simpa using hs⟩, ?_⟩
    have e := r.length
    simp only [Array.length_toList] at e
    omega
theorem Inv.list_inj (I : Inv X pins σ H s) (h : SqL X.K H a xs) (h' : SqL X.K H a ys) : xs = ys := by
  obtain ⟨its, r, ⟨o, n, e, _, _, d⟩, _⟩ := I.list h
  obtain ⟨its', r', ⟨o', n', e', _, _, d'⟩, _⟩ := I.list h'
  rw [e] at e'; cases e'
  rw [d] at d'
  injection d' with d1 _
  have : its = its' := by simpa using congrArg Array.toList d1
  subst this
  exact r.inj r'
theorem Inv.tuple_inj (I : Inv X pins σ H s) (h : SqT X.K H a xs) (h' : SqT X.K H a ys) : xs = ys := by
  obtain ⟨its, r, ⟨o, e, _, n, d⟩, _⟩ := I.tuple h
  obtain ⟨its', r', ⟨o', e', _, n', d'⟩, _⟩ := I.tuple h'
  rw [e] at e'; cases e'
  rw [d] at d'
  injection d' with d1 _
  have : its = its' := by simpa using congrArg Array.toList d1
  subst this
  exact r.inj r'
end
abbrev Cx.wish (X : Cx) (E : Value → Shared → Prop) : Cx := { X with xe := E }
abbrev Cx.nox (X : Cx) : Cx := X.wish fun _ _ => False
theorem Cx.Ok.wish {X : Cx} (ok : X.Ok) (E : Value → Shared → Prop) : (X.wish E).Ok :=
  ⟨ok.mod, ok.kind, ok.glob, ok.blt, ok.above, ok.inj, ok.has, ok.cab, ok.hd, ok.frames, ok.stk, ok.exf, ok.bs, ok.bsz, ok.noex, ok.exfs, ok.funs, ok.frf⟩
theorem Cx.Ok.unwish {X : Cx} {E : Value → Shared → Prop} (ok : (X.wish E).Ok) : X.Ok :=
  ⟨ok.mod, ok.kind, ok.glob, ok.blt, ok.above, ok.inj, ok.has, ok.cab, ok.hd, ok.frames, ok.stk, ok.exf, ok.bs, ok.bsz, ok.noex, ok.exfs, ok.funs, ok.frf⟩
section
variable {X : Cx} {pins : List (Addr × Obj)} {σ : St} {H : Hp} {s : Shared} {E : Value → Shared → Prop}
theorem Inv.wish (I : Inv X pins σ H s) (E : Value → Shared → Prop) : Inv (X.wish E) pins σ H s := ⟨I.ok.wish E, I.os, I.bare, I.base, I.loc, I.cell, I.free, I.freeC, I.pin, I.hok, I.len⟩
theorem Inv.unwish (I : Inv (X.wish E) pins σ H s) : Inv X pins σ H s := ⟨I.ok.unwish, I.os, I.bare, I.base, I.loc, I.cell, I.free, I.freeC, I.pin, I.hok, I.len⟩
theorem SP.unwish {D : Ends} {f : Flow} {s' : Shared} (h : SP (X.wish E) pins D f s') : SP X pins D f s' := by
  cases f with
  | next => obtain ⟨σ', H', I, q⟩ := h; exact ⟨σ', H', I.unwish, q⟩
  | brk => obtain ⟨σ', H', I, q⟩ := h; exact ⟨σ', H', I.unwish, q⟩
  | cont => obtain ⟨σ', H', I, q⟩ := h; exact ⟨σ', H', I.unwish, q⟩
  | ret u => obtain ⟨v, σ', H', I, r, q⟩ := h; exact ⟨v, σ', H', I.unwish, r, q⟩
theorem PSs.nox {st : List Stmt} {t : TS} (h : PSs X.nox st t) : PSs X st t := fun pins s σ H D I hw =>
  wpAny_mono (h pins s σ H D (I.wish _) hw) (fun _ _ q => q.unwish) fun _ _ z => False.elim z
end
section
variable {X : Cx} {st : Stmt} {rest : List Stmt} {t u : TS} {e : Expr} {te : TE} {pos : Pos}
def tNext : TS := fun D σ H => D.nx σ H
def tSeq (t u : TS) : TS := fun D σ H => t { D with nx := u D } σ H
theorem pss_nil : PSs X [] tNext := fun _ _ σ H _ I h => wpAny_execs_nil ⟨σ, H, I, h⟩
theorem pss_cons (h1 : PS X st t) (h2 : PSs X rest u) : PSs X (st :: rest) (tSeq t u) := by
  intro pins s σ H D I h
  refine wpAny_execs_cons (thn (h1 pins s σ H { D with nx := u D } I h) fun f s1 q => ?_)
  cases f with
  | next =>
    obtain ⟨σ', H', I', q⟩ := q
    exact h2 pins s1 σ' H' D I' q
  | ret v => exact q
  | brk => exact q
  | cont => exact q
theorem pss_one (h1 : PS X st t) : PSs X [st] t := by
  intro pins s σ H D I h
  refine wpAny_execs_cons (thn (h1 pins s σ H D I h) fun f s1 q => ?_)
  cases f with
  | next => exact wpAny_execs_nil q
  | ret v => exact q
  | brk => exact q
  | cont => exact q
theorem Inv.quiet {pins : List (Addr × Obj)} {σ : St} {H : Hp} {s : Shared} (I : Inv X pins σ H s) : interactive X.env = false := by simp [interactive, I.ok.kind]
def tDrop (te : TE) : TS := fun D σ H => te σ H fun _ H1 => D.nx σ H1
theorem ps_expr (he : PE X e te) (hs : swapsWith e none pos.line X.env = pure false := by rfl) : PS X (.Expr e pos) (tDrop te) := by
  intro pins s σ H D I h
  exact wpAny_Expr_any (thn (he pins s σ H _ I h) fun v s1 ⟨x, H1, I1, r1, q1⟩ => ⟨σ, H1, I1, q1⟩) I.quiet hs
def tRet (te : TE) : TS := fun D σ H => te σ H D.rt
theorem ps_ret (he : PE X e te) : PS X (.Return (some e) pos) (tRet te) := by
  intro pins s σ H D I h
  exact wpAny_Return_some (thn (he pins s σ H _ I h) fun v s1 ⟨x, H1, I1, r1, q1⟩ => ⟨x, σ, H1, I1, r1, q1⟩)
def tIfS (c : TT) (t u : TS) : TS := fun D σ H => c σ H fun b H1 => if b = true then t D σ H1 else u D σ H1
theorem ps_if {c : Expr} {a b : List Stmt} {tc : TT} (hc : PT X c tc) (ha : PSs X a t) (hb : PSs X b u) : PS X (.If c a b pos) (tIfS tc t u) := by
  intro pins s σ H D I h
  refine wpAny_If (thn (hc pins s σ H _ I h) fun d s1 ⟨H1, I1, q1⟩ => ?_)
  cases d with
  | true => exact ha pins s1 σ H1 D I1 q1
  | false => exact hb pins s1 σ H1 D I1 q1
def tNever : TS := fun _ _ _ => False
theorem pss_never {sts : List Stmt} : PSs X sts tNever := fun _ _ _ _ _ _ h => h.elim
end
abbrev TG := V → St → Hp → (St → Hp → Prop) → Prop
abbrev TGs := List V → St → Hp → (St → Hp → Prop) → Prop
def PG (X : Cx) (target : Expr) (t : TG) : Prop :=
  ∀ (pins : List (Addr × Obj)) (s : Shared) (σ : St) (H : Hp) (v : V) (u : Value) (Q : St → Hp → Prop), Inv X pins σ H s → RelV v u → t v σ H Q →
    wpAny (model X.prog X.w) X.A (assign target X.env u) (fun _ s' => ∃ σ' H', Inv X pins σ' H' s' ∧ Q σ' H') X.xe s
def PGs (X : Cx) (ts : List Expr) (t : TGs) : Prop :=
  ∀ (pins : List (Addr × Obj)) (s : Shared) (σ : St) (H : Hp) (vs : List V) (us : List Value) (Q : St → Hp → Prop), Inv X pins σ H s → Vals vs us → t vs σ H Q →
    wpAny (model X.prog X.w) X.A (assignInOrder ((assignEach ts X.env).map (·.2)) us) (fun _ s' => ∃ σ' H', Inv X pins σ' H' s' ∧ Q σ' H') X.xe s
section
variable {X : Cx} {pos : Pos}
def gName (i : Nat) : TG := fun v σ H Q => Q (σ.set i (some v)) H
theorem pg_name {i : Nat} {x : Str} (hN : X.N.Nodup) (hi : X.N[i]? = some x) (hx : Loc X.env.scope x) (hf : X.fn x = true ∨ X.env.scope.names.lookup x = some .local := by first | exact .inl rfl | exact .inr rfl | assumption) : PG X (.Name x pos) (gName i) := by
  intro pins s σ H v u Q I r h
  exact wpAny_assign_Name (store_ok I hN hi hx r (fun s' I' => ⟨_, H, I', h⟩) hf)
def gNil : TGs := fun vs σ H Q => vs = [] ∧ Q σ H
def gCons (t : TG) (u : TGs) : TGs := fun vs σ H Q => ∃ v r, vs = v :: r ∧ t v σ H fun σ' H' => u r σ' H' Q
theorem pgs_nil : PGs X [] gNil := by
  intro pins s σ H vs us Q I r h
  obtain ⟨e, h⟩ := h
  subst e
  cases r
  exact assignInOrder_nil ⟨σ, H, I, h⟩
theorem pgs_cons {e : Expr} {es : List Expr} {t : TG} {u : TGs} (h1 : PG X e t) (h2 : PGs X es u)
    (hs : (assignEach (e :: es) X.env).map (·.2) = assign e X.env :: (assignEach es X.env).map (·.2) := by rfl) : PGs X (e :: es) (gCons t u) := by
  intro pins s σ H vs us Q I r h
  obtain ⟨v, vr, e1, h⟩ := h
  subst e1
  cases r with
  | cons r rr =>
    rw [hs]
    refine assignInOrder_cons (thn (h1 pins s σ H _ _ _ I r h) fun _ s1 ⟨σ1, H1, I1, q1⟩ => ?_)
    exact h2 pins s1 σ1 H1 _ _ Q I1 rr q1
def gTup (K : PySem.W.Frag) (n : Nat) (t : TGs) : TG := fun v σ H Q => ∃ a xs, v = .ref a ∧ SqT K H a xs ∧ xs.length = n ∧ t xs σ H Q
theorem pg_tup {es : List Expr} {k : Nat} {t : TGs} {n : Nat} (hc : X.calm = true) (h : PGs X es t)
    (hn : (assignEach es X.env).length = n := by rfl) (hst : (assignEach es X.env).findIdx? (·.1) = none := by rfl) : PG X (.Tuple es k pos) (gTup X.K n t) := by
  intro pins s σ H v u Q I r hw
  obtain ⟨a, xs, e1, hq, hl, hw⟩ := hw
  subst e1
  cases r
  obtain ⟨its, rv, ht, hz⟩ := I.tuple hq
  refine assign_Tuple_tuple (I.ok.hd hc) ht (by simp [hn, ← hl, rv.length]) hst fun h' hx => ?_
  have I1 : Inv X pins σ H { s with heap := h' } := I.kept (t' := s.toks) fun b o e => hx b o (Nat.ne_of_lt (Heap.lt_size e)) e
  exact h pins _ σ H xs _ Q I1 (by simpa using rv) hw
def tAsg (te : TE) (g : TG) : TS := fun D σ H => te σ H fun x H1 => g x σ H1 D.nx
theorem ps_set {i : Nat} {x : Str} {e : Expr} {te : TE} {pos' : Pos} (hN : X.N.Nodup) (hi : X.N[i]? = some x) (hx : Loc X.env.scope x) (he : PE X e te) (hs : swapsWith e (some (.Name x pos')) pos.line X.env = pure false := by rfl) (hf : X.fn x = true ∨ X.env.scope.names.lookup x = some .local := by first | exact .inl rfl | exact .inr rfl | assumption) :
    PS X (.Assign [.Name x pos'] e pos) (tAsg te (gName i)) := by
  intro pins s σ H D I h
  refine wpAny_Assign_Name (thn (he pins s σ H _ I h) fun v s1 ⟨y, H1, I1, r1, q1⟩ => ?_) hs
  exact store_ok I1 hN hi hx r1 (fun s2 I2 => ⟨_, H1, I2, q1⟩) hf
end
section
variable {X : Cx} {pos : Pos}
def tWhile (c : TT) (tb : TS) : TS := fun D σ H => ∃ W : Nat → St → Hp → Prop, (∃ m, W m σ H) ∧ ∀ m σ H, W m σ H →
  c σ H fun b H1 => if b = true then ∃ N : St → Hp → Prop, (∀ σ' H', N σ' H' → ∃ m', m' < m ∧ W m' σ' H') ∧ tb { D with nx := N, ct := N, bk := D.nx } σ H1 else D.nx σ H1
theorem ps_while {c : Expr} {body : List Stmt} {tc : TT} {tb : TS} (hp : PassesOwn (model X.prog X.w) X.A X.env X.xe) (hc : PT X c tc) (hb : PSs X body tb) : PS X (.While c body [] pos) (tWhile tc tb) := by
  intro pins s σ H D I h
  obtain ⟨W, ⟨m0, w0⟩, turn⟩ := h
  refine wpAny_While (codeAny_whileLoop (fun n s' => ∃ σ' H', Inv X pins σ' H' s' ∧ W n σ' H') ?_ m0 ⟨σ, H, I, w0⟩)
  rintro n s1 ⟨σ1, H1, I1, w1⟩
  refine wpAny_passesOwn hp (thn (hc pins s1 σ1 H1 _ I1 (turn n σ1 H1 w1)) fun b s2 ⟨H2, I2, q2⟩ => ?_)
  cases b with
  | true =>
    obtain ⟨N, hN, q2⟩ := q2
    rw [if_pos rfl]
    refine wpAny_passesOwn hp (thn (hb pins s2 σ1 H2 _ I2 q2) fun f s3 q3 => ?_)
    cases f with
    | next =>
      obtain ⟨σ3, H3, I3, n3⟩ := q3
      obtain ⟨m', hm, w3⟩ := hN σ3 H3 n3
      exact ⟨m', hm, σ3, H3, I3, w3⟩
    | cont =>
      obtain ⟨σ3, H3, I3, n3⟩ := q3
      obtain ⟨m', hm, w3⟩ := hN σ3 H3 n3
      exact ⟨m', hm, σ3, H3, I3, w3⟩
    | brk => exact q3
    | ret v => exact q3
  | false =>
    rw [if_neg Bool.false_ne_true]
    exact wpAny_execs_nil ⟨σ1, H2, I2, q2⟩
end
structure It where
  go : Nat → Hp → Prop
  yld : Nat → Hp → V → Hp → Prop
  stop : Nat → Hp → Prop
def FpOk (X : Cx) (pins : List (Addr × Obj)) (H : Hp) (b : Addr) : Prop :=
  H b = none ∧ b ≠ X.env.locals ∧ b ∉ X.fs ∧ (b ∈ X.ex ∨ X.s₀.heap.objs.size ≤ b) ∧ (∀ x c, X.env.cells.lookup x = some c → c ≠ b) ∧ ∀ p ∈ X.pn ++ pins, p.1 ≠ b
theorem Inv.fpOk {X : Cx} {pins : List (Addr × Obj)} {σ : St} {H H' : Hp} {s : Shared} {b : Addr} (I : Inv X pins σ H s) (hb : s.heap.objs.size ≤ b) (hn : H' b = none) : FpOk X pins H' b := by
  refine ⟨hn, Nat.ne_of_gt (Nat.lt_of_lt_of_le I.lt hb), I.nofs hb, .inr (Nat.le_trans I.sz hb), fun x c e z => ?_, fun p hp z => ?_⟩
  · obtain ⟨v, q⟩ := I.cell x c e
    exact absurd (Nat.lt_of_lt_of_le q.lt (by rw [z]; exact hb)) (Nat.lt_irrefl _)
  · exact absurd (Nat.lt_of_lt_of_le (Heap.lt_size (I.pin p hp).1) (by rw [z]; exact hb)) (Nat.lt_irrefl _)
structure Turn (P : Program) (w : World) (K : PySem.W.Frag) (tg : Expr) (J : It) (fp : List Addr) (it : Addr) (tn : Nat → Heap → Prop) : Prop where
  mem : it ∈ fp
  obj : ∀ i h, tn i h → ∀ b ∈ fp, ∃ o, h.get? b = some o ∧ ∀ v, o.data ≠ .cell v
  keep : ∀ i h h', tn i h → (∀ b ∈ fp, ∀ o, h.get? b = some o → h'.get? b = some o) → tn i h'
  item : ∀ (X : Cx), X.prog = P → X.w = w → X.K = K → X.calm = true → ∀ (i : Nat) (pins : List (Addr × Obj)) (s : Shared) (σ : St) (H : Hp) (E : Value → Shared → Prop), Inv X pins σ H s → (∀ b ∈ fp, FpOk X pins H b) → tn i s.heap → J.go i H →
    wpAny (model P w) X.A (pyNext (.ref it)) (fun r s1 => ∃ u, r = some u ∧
      wpAny (model P w) X.A (letOwnedTupleGo tg (.ref it) u) (fun _ s2 => ∃ x H', Inv X pins σ H' s2 ∧ RelV x u ∧ J.yld i H x H' ∧ tn (i + 1) s2.heap ∧ ∀ b ∈ fp, H' b = none) E s1) E s
  done : ∀ (X : Cx), X.prog = P → X.w = w → X.K = K → X.calm = true → ∀ (i : Nat) (pins : List (Addr × Obj)) (s : Shared) (σ : St) (H : Hp) (E : Value → Shared → Prop), Inv X pins σ H s → (∀ b ∈ fp, FpOk X pins H b) → tn i s.heap → J.stop i H →
    wpAny (model P w) X.A (pyNext (.ref it)) (fun r s1 => r = none ∧ Inv X pins σ H s1) E s
  self : ∀ (A : Around) (i : Nat) (s : Shared) (Q : Value → Shared → Prop) (E : Value → Shared → Prop), tn i s.heap → Q (.ref it) s → wpAny (model P w) A (pyIter (.ref it)) Q E s
abbrev TI := St → Hp → (It → Hp → Prop) → Prop
def PIE (X : Cx) (pins : List (Addr × Obj)) (σ : St) (tg : Expr) (R : It → Hp → Prop) (itv : Value) (s2 : Shared) : Prop :=
  ∃ (it : Addr) (fp : List Addr) (tn : Nat → Heap → Prop) (J : It) (H' : Hp), itv = .ref it ∧ Inv X pins σ H' s2 ∧ Turn X.prog X.w X.K tg J fp it tn ∧ tn 0 s2.heap ∧ (∀ b ∈ fp, FpOk X pins H' b) ∧ R J H'
def PI (X : Cx) (tg iter : Expr) (wi : TI) : Prop :=
  ∀ (pins : List (Addr × Obj)) (s : Shared) (σ : St) (H : Hp) (R : It → Hp → Prop), Inv X pins σ H s → wi σ H R →
    wpAny (model X.prog X.w) X.A (eval iter X.env) (fun v s1 => wpAny (model X.prog X.w) X.A (pyIter v) (PIE X pins σ tg R) X.xe s1) X.xe s
theorem go_of {M : Model} {A : Around} {E : Value → Shared → Prop} {s : Shared} {tg : Expr} {it : Addr} {u : Value} {o : Obj} {n : String} {vs : Array Value} {Q : Unit → Shared → Prop} (ho : s.heap.get? it = some o) (hc : o.cls = .type n) (hd : o.data = .fields vs)
    (hn : ["enumerate", "zip", "dict_itemiterator", "dict_reverseitemiterator", "odict_iterator", "itertools.zip_longest", "itertools.pairwise"].contains n = false) (hQ : Q () s) : wpAny M A (letOwnedTupleGo tg (.ref it) u) Q E s := by
  unfold letOwnedTupleGo
  cases tg <;> first
    | exact wpAny_pure hQ
    | (cases u <;> first
        | exact wpAny_pure hQ
        | (refine wpAny_bind (wpAny_load ho ?_)
           rw [hc, hd]
           show wpAny M A (if (["enumerate", "zip", "dict_itemiterator", "dict_reverseitemiterator", "odict_iterator", "itertools.zip_longest", "itertools.pairwise"].contains n && vs[0]? == some (rawInt _)) = true then _ else _) Q E s
           rw [if_neg (by intro h; rw [hn, Bool.false_and] at h; cases h)]
           exact wpAny_pure hQ))
def Itl (K : PySem.W.Frag) (a : Addr) : It :=
  ⟨fun i H => ∃ xs x, SqL K H a xs ∧ xs[i]? = some x, fun i H x H' => H' = H ∧ ∀ xs, SqL K H a xs → xs[i]? = some x, fun i H => ∃ xs, SqL K H a xs ∧ xs.length ≤ i⟩
def Itt (K : PySem.W.Frag) (a : Addr) : It :=
  ⟨fun i H => ∃ xs x, SqT K H a xs ∧ xs[i]? = some x, fun i H x H' => H' = H ∧ ∀ xs, SqT K H a xs → xs[i]? = some x, fun i H => ∃ xs, SqT K H a xs ∧ xs.length ≤ i⟩
def Itr (lo : Int) (n : Nat) : It := ⟨fun i _ => i < n, fun i H x H' => H' = H ∧ x = .int (lo + i), fun i _ => n ≤ i⟩
theorem turn_list {P : Program} {w : World} {K : PySem.W.Frag} {tg : Expr} (a it : Addr) : Turn P w K tg (Itl K a) [it] it (fun i h => h.IsListIter it a i) where
  mem := by simp
  obj := fun i h st b hb => by
    have e : b = it := by simpa using hb
    subst e
    obtain ⟨o, e, c, d⟩ := st
    exact ⟨o, e, fun v z => by rw [d] at z; cases z⟩
  keep := fun i h h' st k => st.at fun o e => k it (by simp) o e
  item := by
    intro X hP hw hK hc i pins s σ H E I hf st hg
    subst hP hw hK
    obtain ⟨xs, x, hq, hx⟩ := hg
    obtain ⟨its, rv, p, hz⟩ := I.list hq
    obtain ⟨u, hu, ru⟩ := rv.get hx
    obtain ⟨f0, f1, f2, f3, f4, f5⟩ := hf it (by simp)
    refine wpAny_pyNext_list_item st p.isList (x := u) (by simpa using hu) fun h' st' sb => ?_
    have I1 : Inv X pins σ H { s with heap := h' } := I.turned (t' := s.toks) (fun b o hb e => (sb.2 b hb).trans e) f0 f1 f3 f4 f5
    obtain ⟨o, e, c, d⟩ := id st'
    exact ⟨u, rfl, go_of (s := { s with heap := h' }) e c d (by decide) ⟨x, H, I1, ru, ⟨rfl, fun ys hy => by rw [I.list_inj hy hq]; exact hx⟩, st', fun b hb => (hf b hb).1⟩⟩
  done := by
    intro X hP hw hK hc i pins s σ H E I hf st hg
    subst hP hw hK
    obtain ⟨xs, hq, hx⟩ := hg
    obtain ⟨its, rv, p, hz⟩ := I.list hq
    obtain ⟨f0, f1, f2, f3, f4, f5⟩ := hf it (by simp)
    have hl := rv.length
    exact wpAny_pyNext_list_end (I.ok.hd hc) st p.isList (by simp; omega) fun h' eb => ⟨rfl, I.turned (t' := s.toks) (fun b o hb e => eb b o hb e) f0 f1 f3 f4 f5⟩
  self := fun _ _ _ _ _ st h => wpAny_pyIter_listiter st h
theorem turn_tuple {P : Program} {w : World} {K : PySem.W.Frag} {tg : Expr} (a it : Addr) : Turn P w K tg (Itt K a) [it] it (fun i h => h.IsTupleIter it a i) where
  mem := by simp
  obj := fun i h st b hb => by
    have e : b = it := by simpa using hb
    subst e
    obtain ⟨o, e, c, d⟩ := st
    exact ⟨o, e, fun v z => by rw [d] at z; cases z⟩
  keep := fun i h h' st k => st.at fun o e => k it (by simp) o e
  item := by
    intro X hP hw hK hc i pins s σ H E I hf st hg
    subst hP hw hK
    obtain ⟨xs, x, hq, hx⟩ := hg
    obtain ⟨its, rv, p, hz⟩ := I.tuple hq
    obtain ⟨u, hu, ru⟩ := rv.get hx
    obtain ⟨f0, f1, f2, f3, f4, f5⟩ := hf it (by simp)
    refine wpAny_pyNext_tuple_item st (show s.heap.IsTuple a its.toArray from p) (x := u) (by simpa using hu) fun h' st' sb => ?_
    have I1 : Inv X pins σ H { s with heap := h' } := I.turned (t' := s.toks) (fun b o hb e => (sb.2 b hb).trans e) f0 f1 f3 f4 f5
    obtain ⟨o, e, c, d⟩ := id st'
    exact ⟨u, rfl, go_of (s := { s with heap := h' }) e c d (by decide) ⟨x, H, I1, ru, ⟨rfl, fun ys hy => by rw [I.tuple_inj hy hq]; exact hx⟩, st', fun b hb => (hf b hb).1⟩⟩
  done := by
    intro X hP hw hK hc i pins s σ H E I hf st hg
    subst hP hw hK
    obtain ⟨xs, hq, hx⟩ := hg
    obtain ⟨its, rv, p, hz⟩ := I.tuple hq
    obtain ⟨f0, f1, f2, f3, f4, f5⟩ := hf it (by simp)
    have hl := rv.length
    exact wpAny_pyNext_tuple_end (I.ok.hd hc) st (show s.heap.IsTuple a its.toArray from p) (by simp; omega) fun h' eb => ⟨rfl, I.turned (t' := s.toks) (fun b o hb e => eb b o hb e) f0 f1 f3 f4 f5⟩
  self := fun _ _ _ _ _ st h => wpAny_pyIter_tupleiter st h
theorem turn_range {P : Program} {w : World} {K : PySem.W.Frag} {tg : Expr} (it : Addr) (lo : Int) (n : Nat) : Turn P w K tg (Itr lo n) [it] it (fun i h => IsRangeIter h it (lo + (i : Nat) * 1) ((n : Int) - (i : Nat)) 1) where
  mem := by simp
  obj := fun i h st b hb => by
    have e : b = it := by simpa using hb
    subst e
    exact ⟨_, st, fun v z => by
      have z' : Data.fields _ = Data.cell v := z
      cases z'⟩
  keep := fun i h h' st k => k it (by simp) _ st
  item := by
    intro X hP hw hK hc i pins s σ H E I hf st hg
    subst hP hw hK
    obtain ⟨f0, f1, f2, f3, f4, f5⟩ := hf it (by simp)
    have W := Walks.range (prog := X.prog) (w := X.w) (I.ok.hd hc) it lo 1 n
    refine W.item i s _ _ hg st fun v h' tk hv st' kk => ?_
    obtain ⟨t, rfl⟩ := hv
    have I1 : Inv X pins σ H { s with heap := h', toks := tk } := I.turned (fun b o hb e => kk b o (by simpa using hb) e) f0 f1 f3 f4 f5
    refine ⟨_, rfl, go_of (s := { s with heap := h', toks := tk }) (n := "range_iterator") st' rfl rfl (by decide) ⟨.int (lo + i), H, I1, ⟨t, ?_⟩, ⟨rfl, rfl⟩, st', fun b hb => (hf b hb).1⟩⟩
    rw [Int.mul_one]
  done := by
    intro X hP hw hK hc i pins s σ H E I hf st hg
    subst hP hw hK
    obtain ⟨f0, f1, f2, f3, f4, f5⟩ := hf it (by simp)
    exact wpAny_pyNext_range_end (I.ok.hd hc) st (by have : n ≤ i := hg; omega) fun h' eb => ⟨rfl, I.turned (t' := s.toks) (fun b o hb e => eb b o hb e) f0 f1 f3 f4 f5⟩
  self := fun _ _ _ _ _ st h => wpAny_pyIter_rangeiter st h
end L2
namespace L2
open PySem PySem.Spec PyProof.Rows
section
variable {X : Cx} {tg : Expr}
def iList (K : PySem.W.Frag) (tl : TE) : TI := fun σ H R => tl σ H fun x H1 => ∃ a, x = .ref a ∧ (∃ xs, SqL K H1 a xs) ∧ R (Itl K a) H1
def iTup (K : PySem.W.Frag) (tl : TE) : TI := fun σ H R => tl σ H fun x H1 => ∃ a, x = .ref a ∧ (∃ xs, SqT K H1 a xs) ∧ R (Itt K a) H1
theorem pi_list {l : Expr} {tl : TE} (hl : PE X l tl) : PI X tg l (iList X.K tl) := by
  intro pins s σ H R I h
  refine thn (hl pins s σ H _ I h) fun v s1 ⟨x, H1, I1, r1, q1⟩ => ?_
  obtain ⟨a, e, ⟨xs, hq⟩, q⟩ := q1
  subst e
  cases r1
  obtain ⟨its, rv, p, hz⟩ := I1.list hq
  refine wpAny_pyIter_list p.isList ?_
  refine ⟨s1.heap.objs.size, [s1.heap.objs.size], _, _, H1, rfl, I1.kept (t' := s1.toks) fun b o e => Heap.get?_push_of_some _ e, turn_list a _, ⟨_, Heap.get?_push_size _ rfl, rfl, rfl⟩, fun b hb => ?_, q⟩
  have e : b = s1.heap.objs.size := by simpa using hb
  subst e
  exact I1.fpOk (Nat.le_refl _) (I1.hok.fresh (Nat.le_refl _))
theorem pi_tup {l : Expr} {tl : TE} (hl : PE X l tl) : PI X tg l (iTup X.K tl) := by
  intro pins s σ H R I h
  refine thn (hl pins s σ H _ I h) fun v s1 ⟨x, H1, I1, r1, q1⟩ => ?_
  obtain ⟨a, e, ⟨xs, hq⟩, q⟩ := q1
  subst e
  cases r1
  obtain ⟨its, rv, p, hz⟩ := I1.tuple hq
  refine wpAny_pyIter_tuple (show s1.heap.IsTuple a its.toArray from p) ?_
  refine ⟨s1.heap.objs.size, [s1.heap.objs.size], _, _, H1, rfl, I1.kept (t' := s1.toks) fun b o e => Heap.get?_push_of_some _ e, turn_tuple a _, ⟨_, Heap.get?_push_size _ rfl, rfl, rfl⟩, fun b hb => ?_, q⟩
  have e : b = s1.heap.objs.size := by simpa using hb
  subst e
  exact I1.fpOk (Nat.le_refl _) (I1.hok.fresh (Nat.le_refl _))
theorem range_it {pins : List (Addr × Obj)} {σ : St} {H : Hp} {s : Shared} {R : It → Hp → Prop} {E : Value → Shared → Prop} {lo hi : Int} {t u v : Tok} {tk : Nat} (I : Inv X pins σ H s) (h1 : -(2 ^ 62) ≤ lo) (h2 : lo < 2 ^ 62) (h3 : -(2 ^ 62) ≤ hi) (h4 : hi < 2 ^ 62)
    (q : R (Itr lo (hi - lo).toNat) H) : wpAny (model X.prog X.w) X.A (pyIter (.ref s.heap.objs.size)) (PIE X pins σ tg R) E { s with heap := s.heap.push { cls := .type "range", data := .fields #[.int lo t, .int hi u, .int 1 v] }, toks := tk } := by
  refine wpAny_pyIter_range (IsRange.new ..) (small_one h1 h2 h3 h4) ?_
  have I1 : Inv X pins σ H { s with heap := s.heap.push { cls := .type "range", data := .fields #[.int lo t, .int hi u, .int 1 v] }, toks := tk } := I.kept fun b o e => Heap.get?_push_of_some _ e
  refine ⟨(s.heap.push { cls := .type "range", data := .fields #[.int lo t, .int hi u, .int 1 v] }).objs.size, [(s.heap.push { cls := .type "range", data := .fields #[.int lo t, .int hi u, .int 1 v] }).objs.size], _, _, H, rfl,
    I1.kept (t' := tk) fun b o e => Heap.get?_push_of_some _ e, turn_range _ lo (hi - lo).toNat, ?_, fun b hb => ?_, q⟩
  · have e1 : lo + ((0 : Nat) : Int) * 1 = lo := by simp
    have e2 : (((hi - lo).toNat : Nat) : Int) - ((0 : Nat) : Int) = Builtin.Range.rangeSize lo hi 1 := by rw [rangeSize_one]; split <;> omega
    show IsRangeIter _ _ (lo + ((0 : Nat) : Int) * 1) ((((hi - lo).toNat : Nat) : Int) - ((0 : Nat) : Int)) 1
    rw [e1, e2]
    exact Heap.get?_push_size _ rfl
  · have e : b = (s.heap.push { cls := .type "range", data := .fields #[.int lo t, .int hi u, .int 1 v] }).objs.size := by simpa using hb
    subst e
    exact I1.fpOk (Nat.le_refl _) (I1.hok.fresh (Nat.le_refl _))
def iRng1 (ta : TA) : TI := fun σ H R => ta σ H fun vs H1 => ∃ j : Int, vs = [.int j] ∧ -(2 ^ 62) ≤ j ∧ j < 2 ^ 62 ∧ R (Itr 0 j.toNat) H1
theorem pi_range1 {a : Expr} {ta : TA} {p pos : Pos} (hg : Gl X "range") (hm : X.mg "range" = none) (ha : PA X [a] ta) (hs : starEach [a] X.env = [(false, eval a X.env)] := by rfl) : PI X tg (.Call (.Name "range" p) [a] [] pos) (iRng1 ta) := by
  intro pins s σ H R I h
  refine Call_ (ld_blt I hg hm boot_range (PyProof.Rows.callWith_type1 (thn (ha pos pins s σ H _ I h) fun us s1 ⟨vs, H1, I1, r1, q1⟩ => ?_) hs rfl))
  obtain ⟨j, e, q1, q2, q⟩ := q1
  subst e
  cases r1 with
  | cons r rr =>
    cases rr
    obtain ⟨t, rfl⟩ := r
    exact call_range_1 (range_it I1 (by omega) (by omega) q1 q2 (by simpa using q))
def tFor (wi : TI) (g : TG) (tb : TS) : TS := fun D σ H => wi σ H fun J H1 => ∃ W : Nat → Nat → St → Hp → Prop, (∃ m, W 0 m σ H1) ∧ ∀ i m σ H, W i m σ H →
  (J.stop i H ∧ D.nx σ H) ∨ (J.go i H ∧ ∃ N : St → Hp → Prop, (∀ σ' H', N σ' H' → ∃ m', m' < m ∧ W (i + 1) m' σ' H') ∧ ∀ x H', J.yld i H x H' → g x σ H' fun σ2 H2 => tb { D with nx := N, ct := N, bk := D.nx } σ2 H2)
def pinsAt (fp : List Addr) (h : Heap) : List (Addr × Obj) := fp.filterMap fun b => (h.get? b).map fun o => (b, o)
theorem mem_pinsAt {fp : List Addr} {h : Heap} {b : Addr} {o : Obj} (hb : b ∈ fp) (e : h.get? b = some o) : (b, o) ∈ pinsAt fp h := List.mem_filterMap.mpr ⟨b, hb, by rw [e]; rfl⟩
theorem of_pinsAt {fp : List Addr} {h : Heap} {p : Addr × Obj} (hp : p ∈ pinsAt fp h) : p.1 ∈ fp ∧ h.get? p.1 = some p.2 := by
  obtain ⟨b, hb, e⟩ := List.mem_filterMap.mp hp
  cases q : h.get? b with
  | none => rw [q] at e; cases e
  | some o =>
    rw [q] at e
    have e' : (b, o) = p := Option.some.inj e
    subst e'
    exact ⟨hb, q⟩
theorem Inv.pinned {pins : List (Addr × Obj)} {σ : St} {H : Hp} {s : Shared} {fp : List Addr} (I : Inv X pins σ H s) (hf : ∀ b ∈ fp, FpOk X pins H b) (ho : ∀ b ∈ fp, ∃ o, s.heap.get? b = some o ∧ ∀ v, o.data ≠ .cell v) : Inv X (pins ++ pinsAt fp s.heap) σ H s :=
  I.pins_of fun p hp => (List.mem_append.mp hp).elim (fun z => I.pin p (List.mem_append_right _ z)) fun z => by
    obtain ⟨hb, e⟩ := of_pinsAt z
    obtain ⟨f0, f1, f2, _⟩ := hf p.1 hb
    obtain ⟨o, e', d⟩ := ho p.1 hb
    rw [e] at e'; cases e'
    exact ⟨e, f0, f1, f2, d⟩
theorem Inv.unpinned {pins pl : List (Addr × Obj)} {σ : St} {H : Hp} {s : Shared} (I : Inv X (pins ++ pl) σ H s) : Inv X pins σ H s := I.pins_of fun p hp => I.pin p (List.mem_append_right _ (List.mem_append_left _ hp))
theorem ps_for {iter : Expr} {body : List Stmt} {wi : TI} {g : TG} {tb : TS} {pos : Pos} (hp : PassesOwn (model X.prog X.w) X.A X.env X.xe) (hc : X.calm = true) (hi : PI X tg iter wi) (hg : PG X tg g) (hb : PSs X body tb)
    (hs : ∀ x, foldedSetIterable iter X.env x = pure x := by intro _; rfl) : PS X (.For tg iter body [] pos) (tFor wi g tb) := by
  intro pins s σ H D I h
  refine wpAny_For (thn (hi pins s σ H _ I h) fun v s1 h1 => thn h1 fun itv s2 h2 => ?_) hs
  obtain ⟨it, fp, tn, J, H2, e, I2, T, st2, f2, W, ⟨m0, w0⟩, turn⟩ := h2
  subst e
  have stat : ∀ {H' : Hp}, (∀ b ∈ fp, H' b = none) → ∀ b ∈ fp, FpOk X pins H' b := fun hn b hb => ⟨hn b hb, (f2 b hb).2⟩
  refine codeAny_forLoop_any (fun n s' => ∃ i σ' H', Inv X pins σ' H' s' ∧ tn i s'.heap ∧ (∀ b ∈ fp, H' b = none) ∧ W i n σ' H') ?_ m0 ⟨0, σ, H2, I2, st2, fun b hb => (f2 b hb).1, w0⟩
  rintro n s3 ⟨i, σ3, H3, I3, st3, fr3, w3⟩
  rcases turn i n σ3 H3 w3 with ⟨stop, qn⟩ | ⟨go, N, hN, step⟩
  · refine wpAny_passesOwn hp (thn (T.done X rfl rfl rfl hc i pins s3 σ3 H3 X.xe I3 (stat fr3) st3 stop) fun r s4 ⟨hr, I4⟩ => ?_)
    subst hr
    exact wpAny_execs_nil ⟨σ3, H3, I4, qn⟩
  · refine wpAny_passesOwn hp (thn (T.item X rfl rfl rfl hc i pins s3 σ3 H3 X.xe I3 (stat fr3) st3 go) fun r s4 ⟨u, hr, h4⟩ => ?_)
    subst hr
    refine wpAny_passesOwn hp (thn h4 fun _ s5 ⟨x, H5, I5, r5, y5, st5, fr5⟩ => ?_)
    have I5' := I5.pinned (stat fr5) (T.obj _ _ st5)
    refine wpAny_passesOwn hp (thn (hg _ s5 σ3 H5 x u _ I5' r5 (step x H5 y5)) fun _ s6 ⟨σ6, H6, I6, q6⟩ => ?_)
    refine wpAny_passesOwn hp (thn (hb _ s6 σ6 H6 _ I6 q6) fun f s7 q7 => ?_)
    have again : ∀ {σ7 : St} {H7 : Hp}, Inv X (pins ++ pinsAt fp s5.heap) σ7 H7 s7 → N σ7 H7 → ∃ m, m < n ∧ ∃ i σ' H', Inv X pins σ' H' s7 ∧ tn i s7.heap ∧ (∀ b ∈ fp, H' b = none) ∧ W i m σ' H' := fun {σ7 H7} I7 n7 => by
      obtain ⟨m', hm, w7⟩ := hN σ7 H7 n7
      refine ⟨m', hm, i + 1, σ7, H7, I7.unpinned, T.keep _ _ _ st5 fun b hb o e => (I7.pin (b, o) (List.mem_append_right _ (List.mem_append_right _ (mem_pinsAt hb e)))).1, fun b hb => ?_, w7⟩
      obtain ⟨o, e, d⟩ := T.obj _ _ st5 b hb
      exact (I7.pin (b, o) (List.mem_append_right _ (List.mem_append_right _ (mem_pinsAt hb e)))).2.1
    cases f with
    | next => obtain ⟨σ7, H7, I7, n7⟩ := q7; exact again I7 n7
    | cont => obtain ⟨σ7, H7, I7, n7⟩ := q7; exact again I7 n7
    | brk => obtain ⟨σ7, H7, I7, q7⟩ := q7; exact ⟨σ7, H7, I7.unpinned, q7⟩
    | ret v => obtain ⟨x7, σ7, H7, I7, r7, q7⟩ := q7; exact ⟨x7, σ7, H7, I7.unpinned, r7, q7⟩
end
theorem for_list {K : PySem.W.Frag} {a : Addr} {xs : List V} {g : TG} {tb : TS} {D : Ends} {σ : St} {H : Hp} (Pv : Nat → St → Hp → Prop) (h0 : Pv 0 σ H) (hl : ∀ i σ H, i ≤ xs.length → Pv i σ H → SqL K H a xs)
    (hs : ∀ i x σ H, xs[i]? = some x → Pv i σ H → g x σ H fun σ2 H2 => tb { D with nx := Pv (i + 1), ct := Pv (i + 1), bk := D.nx } σ2 H2) (hd : ∀ σ H, Pv xs.length σ H → D.nx σ H) :
    ∃ W : Nat → Nat → St → Hp → Prop, (∃ m, W 0 m σ H) ∧ ∀ i m σ H, W i m σ H →
      ((Itl K a).stop i H ∧ D.nx σ H) ∨ ((Itl K a).go i H ∧ ∃ N : St → Hp → Prop, (∀ σ' H', N σ' H' → ∃ m', m' < m ∧ W (i + 1) m' σ' H') ∧ ∀ x H', (Itl K a).yld i H x H' → g x σ H' fun σ2 H2 => tb { D with nx := N, ct := N, bk := D.nx } σ2 H2) := by
  refine ⟨fun i m σ H => m = xs.length - i ∧ i ≤ xs.length ∧ Pv i σ H, ⟨xs.length, by simp, Nat.zero_le _, h0⟩, ?_⟩
  rintro i m σ H ⟨rfl, hi, p⟩
  have q := hl i σ H hi p
  by_cases hlt : i < xs.length
  · refine .inr ⟨⟨xs, xs[i], q, by simp [hlt]⟩, Pv (i + 1), fun σ' H' p' => ⟨xs.length - (i + 1), by omega, rfl, hlt, p'⟩, fun x H' y => ?_⟩
    obtain ⟨e, y⟩ := y
    subst e
    exact hs i x σ _ (y xs q) p
  · have e : i = xs.length := by omega
    subst e
    exact .inl ⟨⟨xs, q, Nat.le_refl _⟩, hd σ H p⟩
theorem for_tup {K : PySem.W.Frag} {a : Addr} {xs : List V} {g : TG} {tb : TS} {D : Ends} {σ : St} {H : Hp} (Pv : Nat → St → Hp → Prop) (h0 : Pv 0 σ H) (hl : ∀ i σ H, i ≤ xs.length → Pv i σ H → SqT K H a xs)
    (hs : ∀ i x σ H, xs[i]? = some x → Pv i σ H → g x σ H fun σ2 H2 => tb { D with nx := Pv (i + 1), ct := Pv (i + 1), bk := D.nx } σ2 H2) (hd : ∀ σ H, Pv xs.length σ H → D.nx σ H) :
    ∃ W : Nat → Nat → St → Hp → Prop, (∃ m, W 0 m σ H) ∧ ∀ i m σ H, W i m σ H →
      ((Itt K a).stop i H ∧ D.nx σ H) ∨ ((Itt K a).go i H ∧ ∃ N : St → Hp → Prop, (∀ σ' H', N σ' H' → ∃ m', m' < m ∧ W (i + 1) m' σ' H') ∧ ∀ x H', (Itt K a).yld i H x H' → g x σ H' fun σ2 H2 => tb { D with nx := N, ct := N, bk := D.nx } σ2 H2) := by
  refine ⟨fun i m σ H => m = xs.length - i ∧ i ≤ xs.length ∧ Pv i σ H, ⟨xs.length, by simp, Nat.zero_le _, h0⟩, ?_⟩
  rintro i m σ H ⟨rfl, hi, p⟩
  have q := hl i σ H hi p
  by_cases hlt : i < xs.length
  · refine .inr ⟨⟨xs, xs[i], q, by simp [hlt]⟩, Pv (i + 1), fun σ' H' p' => ⟨xs.length - (i + 1), by omega, rfl, hlt, p'⟩, fun x H' y => ?_⟩
    obtain ⟨e, y⟩ := y
    subst e
    exact hs i x σ _ (y xs q) p
  · have e : i = xs.length := by omega
    subst e
    exact .inl ⟨⟨xs, q, Nat.le_refl _⟩, hd σ H p⟩
theorem for_range {lo : Int} {n : Nat} {g : TG} {tb : TS} {D : Ends} {σ : St} {H : Hp} (Pv : Nat → St → Hp → Prop) (h0 : Pv 0 σ H)
    (hs : ∀ i σ H, i < n → Pv i σ H → g (.int (lo + i)) σ H fun σ2 H2 => tb { D with nx := Pv (i + 1), ct := Pv (i + 1), bk := D.nx } σ2 H2) (hd : ∀ σ H, Pv n σ H → D.nx σ H) :
    ∃ W : Nat → Nat → St → Hp → Prop, (∃ m, W 0 m σ H) ∧ ∀ i m σ H, W i m σ H →
      ((Itr lo n).stop i H ∧ D.nx σ H) ∨ ((Itr lo n).go i H ∧ ∃ N : St → Hp → Prop, (∀ σ' H', N σ' H' → ∃ m', m' < m ∧ W (i + 1) m' σ' H') ∧ ∀ x H', (Itr lo n).yld i H x H' → g x σ H' fun σ2 H2 => tb { D with nx := N, ct := N, bk := D.nx } σ2 H2) := by
  refine ⟨fun i m σ H => m = n - i ∧ i ≤ n ∧ Pv i σ H, ⟨n, by simp, Nat.zero_le _, h0⟩, ?_⟩
  rintro i m σ H ⟨rfl, hi, p⟩
  by_cases hlt : i < n
  · refine .inr ⟨hlt, Pv (i + 1), fun σ' H' p' => ⟨n - (i + 1), by omega, rfl, hlt, p'⟩, fun x H' y => ?_⟩
    obtain ⟨e, y⟩ := y
    subst e y
    exact hs i σ _ hlt p
  · have e : i = n := by omega
    subst e
    exact .inl ⟨Nat.le_refl _, hd σ H p⟩
theorem while_by {c : TT} {tb : TS} {D : Ends} {σ : St} {H : Hp} (Pv : St → Hp → Prop) (μ : St → Hp → Nat) (h0 : Pv σ H)
    (hs : ∀ σ H, Pv σ H → c σ H fun b H1 => if b = true then tb { D with nx := fun σ' H' => Pv σ' H' ∧ μ σ' H' < μ σ H, ct := fun σ' H' => Pv σ' H' ∧ μ σ' H' < μ σ H, bk := D.nx } σ H1 else D.nx σ H1)
    (mono : ∀ σ H Q Q', (∀ b H1, Q b H1 → Q' b H1) → c σ H Q → c σ H Q') : tWhile c tb D σ H := by
  refine ⟨fun m σ H => m = μ σ H ∧ Pv σ H, ⟨_, rfl, h0⟩, ?_⟩
  rintro m σ H ⟨rfl, p⟩
  refine mono σ H _ _ (fun b H1 q => ?_) (hs σ H p)
  cases b with
  | true => exact ⟨_, fun σ' H' ⟨p', l⟩ => ⟨_, l, rfl, p'⟩, q⟩
  | false => exact q
end L2
namespace L2
open PySem PySem.Spec PyProof.Rows
abbrev R2 := V → V → Hp → VK → Prop
def OpR (X : Cx) (f : Value → Value → Sem Value) (r : R2) : Prop :=
  ∀ (pins : List (Addr × Obj)) (s : Shared) (σ : St) (H : Hp) (x y : V) (v u : Value) (Q : VK), Inv X pins σ H s → RelV x v → RelV y u → r x y H Q →
    wpAny (model X.prog X.w) X.A (f v u) (EP X pins σ Q) X.xe s
def UnR (X : Cx) (f : Value → Sem Value) (r : V → Hp → VK → Prop) : Prop :=
  ∀ (pins : List (Addr × Obj)) (s : Shared) (σ : St) (H : Hp) (x : V) (v : Value) (Q : VK), Inv X pins σ H s → RelV x v → r x H Q →
    wpAny (model X.prog X.w) X.A (f v) (EP X pins σ Q) X.xe s
def CallR (X : Cx) (f : Value) (r : List V → Hp → VK → Prop) : Prop :=
  ∀ (pins : List (Addr × Obj)) (s : Shared) (σ : St) (H : Hp) (xs : List V) (us : List Value) (Q : VK), Inv X pins σ H s → Vals xs us → r xs H Q →
    wpAny (model X.prog X.w) X.A (call f us) (EP X pins σ Q) X.xe s
def tOp (r : R2) (ta tb : TE) : TE := fun σ H Q => ta σ H fun x H1 => tb σ H1 fun y H2 => r x y H2 Q
def tUn (r : V → Hp → VK → Prop) (ta : TE) : TE := fun σ H Q => ta σ H fun x H1 => r x H1 Q
def rI (C : Int → Int → Prop) (g : Int → Int → V) : R2 := fun x y H Q => ∃ i j, x = .int i ∧ y = .int j ∧ C i j ∧ Q (g i j) H
def rI0 (g : Int → Int → V) : R2 := fun x y H Q => ∃ i j, x = .int i ∧ y = .int j ∧ Q (g i j) H
def rU (g : Int → V) : V → Hp → VK → Prop := fun x H Q => ∃ i, x = .int i ∧ Q (g i) H
section
variable {X : Cx} {a b c : Expr} {ta tb tc : TE} {pos : Pos}
theorem binT (ha : PE X a ta) (hb : PE X b tb) {pins : List (Addr × Obj)} {s : Shared} {σ : St} {H : Hp} {R : V → V → Hp → Prop} (I : Inv X pins σ H s)
    (h : ta σ H fun x H1 => tb σ H1 fun y H2 => R x y H2) {Q : Value → Shared → Prop} {f : Value → Value → Sem Value}
    (hf : ∀ v u s2 x y H2, Inv X pins σ H2 s2 → RelV x v → RelV y u → R x y H2 → wpAny (model X.prog X.w) X.A (f v u) Q X.xe s2) :
    wpAny (model X.prog X.w) X.A (eval a X.env) (fun v s₁ => wpAny (model X.prog X.w) X.A (eval b X.env) (fun u s₂ => wpAny (model X.prog X.w) X.A (f v u) Q X.xe s₂) X.xe s₁) X.xe s := by
  refine thn (ha pins s σ H _ I h) fun v s1 ⟨x, H1, I1, r1, q1⟩ => ?_
  refine thn (hb pins s1 σ H1 _ I1 q1) fun u s2 ⟨y, H2, I2, r2, q2⟩ => ?_
  exact hf v u s2 x y H2 I2 r1 r2 q2
theorem pe_op {op : Operator} {r : R2} (ho : OpR X (binaryOp op) r) (ha : PE X a ta) (hb : PE X b tb) : PE X (.BinOp a op b pos) (tOp r ta tb) := by
  intro pins s σ H Q I h
  exact wpAny_BinOp (binT ha hb I h fun v u s2 x y H2 I2 rx ry q => ho pins s2 σ H2 x y v u Q I2 rx ry q)
theorem pe_un {op : UnaryOp} {r : V → Hp → VK → Prop} (ho : UnR X (unaryOp op) r) (ha : PE X a ta) : PE X (.UnaryOp op a pos) (tUn r ta) := by
  intro pins s σ H Q I h
  exact UnaryOp_ (thn (ha pins s σ H _ I h) fun v s1 ⟨x, H1, I1, r1, q1⟩ => ho pins s1 σ H1 x v Q I1 r1 q1)
theorem opI {f : Value → Value → Sem Value} {C : Int → Int → Prop} {g : Int → Int → Int}
    (rule : ∀ (i j : Int) (t u : Tok) (s : Shared) (Q : Value → Shared → Prop) (E : Value → Shared → Prop), C i j → Q (.int (g i j) s.toks) { s with toks := s.toks + 1 } → wpAny (model X.prog X.w) X.A (f (.int i t) (.int j u)) Q E s) :
    OpR X f (rI C fun i j => .int (g i j)) := by
  intro pins s σ H x y v u Q I rx ry h
  obtain ⟨i, j, rfl, rfl, hc, q⟩ := h
  obtain ⟨t, rfl⟩ := rx
  obtain ⟨t', rfl⟩ := ry
  exact rule i j t t' s _ _ hc ⟨.int (g i j), H, I.tok _, ⟨_, rfl⟩, q⟩
theorem opI0 {f : Value → Value → Sem Value} {g : Int → Int → Int}
    (rule : ∀ (i j : Int) (t u : Tok) (s : Shared) (Q : Value → Shared → Prop) (E : Value → Shared → Prop), Q (.int (g i j) s.toks) { s with toks := s.toks + 1 } → wpAny (model X.prog X.w) X.A (f (.int i t) (.int j u)) Q E s) :
    OpR X f (rI0 fun i j => .int (g i j)) := by
  intro pins s σ H x y v u Q I rx ry h
  obtain ⟨i, j, rfl, rfl, q⟩ := h
  obtain ⟨t, rfl⟩ := rx
  obtain ⟨t', rfl⟩ := ry
  exact rule i j t t' s _ _ ⟨.int (g i j), H, I.tok _, ⟨_, rfl⟩, q⟩
theorem opB0 {f : Value → Value → Sem Value} {g : Int → Int → Bool}
    (rule : ∀ (i j : Int) (t u : Tok) (s : Shared) (Q : Value → Shared → Prop) (E : Value → Shared → Prop), Q (.bool (g i j)) s → wpAny (model X.prog X.w) X.A (f (.int i t) (.int j u)) Q E s) :
    OpR X f (rI0 fun i j => .bl (g i j)) := by
  intro pins s σ H x y v u Q I rx ry h
  obtain ⟨i, j, rfl, rfl, q⟩ := h
  obtain ⟨t, rfl⟩ := rx
  obtain ⟨t', rfl⟩ := ry
  exact rule i j t t' s _ _ ⟨.bl (g i j), H, I, rfl, q⟩
def CDiv (i j : Int) : Prop := 0 < j ∧ j < 1073741824
def CMul (i j : Int) : Prop := (-(2 ^ 64) < i ∧ i < 2 ^ 64) ∨ (-(2 ^ 64) < j ∧ j < 2 ^ 64)
theorem CMul.ok {i j : Int} (h : CMul i j) : IntMulOk i j := by
  rcases h with ⟨h1, h2⟩ | ⟨h1, h2⟩
  · exact .of_left (intBits_le_64 h1 h2)
  · exact .of_right (intBits_le_64 h1 h2)
theorem op_add : OpR X (binaryOp .Add) (rI0 fun i j => .int (i + j)) := opI0 fun _ _ _ _ _ _ _ q => add_int q
theorem op_sub : OpR X (binaryOp .Sub) (rI0 fun i j => .int (i - j)) := opI0 fun _ _ _ _ _ _ _ q => sub_int q
theorem op_mul : OpR X (binaryOp .Mult) (rI CMul fun i j => .int (i * j)) := opI fun _ _ _ _ _ _ _ hc q => mul_int q hc.ok
theorem op_fdiv : OpR X (binaryOp .FloorDiv) (rI CDiv fun i j => .int (i / j)) := opI fun i j _ _ _ _ _ hc q => by
  have h1 : (0 : Int) < j := hc.1
  have h2 : j < 1073741824 := hc.2
  exact floordiv_int (by omega) (by rw [Int.fdiv_eq_ediv_of_nonneg i (by omega)]; exact q) (.inl (PyProof.noPylong_small (by omega)))
theorem op_mod : OpR X (binaryOp .Mod) (rI (fun _ j => 0 < j) fun i j => .int (i % j)) := opI fun i j _ _ _ _ _ hc q => by
  have h1 : (0 : Int) < j := hc
  exact mod_int' (by omega) (by rw [Int.fmod_eq_emod_of_nonneg i (by omega)]; exact q)
theorem unI {f : Value → Sem Value} {g : Int → Int}
    (rule : ∀ (i : Int) (t : Tok) (s : Shared) (Q : Value → Shared → Prop) (E : Value → Shared → Prop), Q (.int (g i) s.toks) { s with toks := s.toks + 1 } → wpAny (model X.prog X.w) X.A (f (.int i t)) Q E s) :
    UnR X f (rU fun i => .int (g i)) := by
  intro pins s σ H x v Q I rx h
  obtain ⟨i, rfl, q⟩ := h
  obtain ⟨t, rfl⟩ := rx
  exact rule i t s _ _ ⟨.int (g i), H, I.tok _, ⟨_, rfl⟩, q⟩
theorem un_neg : UnR X (unaryOp .USub) (rU fun i => .int (-i)) := unI fun _ _ _ _ _ q => neg_int q
end
def scal : V → V → Bool
  | .non, .non => true | .non, .int _ => true | .int _, .non => true | .non, .bl _ => true | .bl _, .non => true | .non, .str _ => true | .str _, .non => true
  | .int _, .int _ => true | .bl _, .bl _ => true | .str _, .str _ => true | .byt _, .byt _ => true
  | .int _, .str _ => true | .str _, .int _ => true | .bl _, .str _ => true | .str _, .bl _ => true
  | _, _ => false
def rEq : R2 := fun x y H Q => scal x y = true ∧ Q (.bl (decide (x = y))) H
def rNe : R2 := fun x y H Q => scal x y = true ∧ Q (.bl (!decide (x = y))) H
theorem dec_int {i j : Int} : decide (V.int i = V.int j) = (i == j) := by
  rw [Bool.eq_iff_iff]
  simp
theorem dec_bl {i j : Bool} : decide (V.bl i = V.bl j) = (i == j) := by
  rw [Bool.eq_iff_iff]
  simp
theorem dec_str {i j : Str} : decide (V.str i = V.str j) = (i == j) := by
  rw [Bool.eq_iff_iff]
  simp
theorem dec_byt {i j : Array UInt8} : decide (V.byt i = V.byt j) = (i.toList == j.toList) := by
  rw [Bool.eq_iff_iff]
  cases i
  cases j
  simp
section
variable {X : Cx} {a b c : Expr} {ta tb tc : TE} {pos : Pos}
theorem fin_bl {pins : List (Addr × Obj)} {σ : St} {H : Hp} {s : Shared} {Q : VK} {k k' : Bool} (I : Inv X pins σ H s) (q : Q (.bl k) H) (e : k = k') : EP X pins σ Q (.bool k') s := by
  subst e
  exact ⟨.bl k, H, I, rfl, q⟩
theorem op_eq : OpR X (compareOp .Eq) rEq := by
  intro pins s σ H x y v u Q I rx ry h
  obtain ⟨hs, q⟩ := h
  cases x with
  | non =>
    cases rx
    cases y with
    | non => cases ry; exact PySem.EqNone.eq_none_none (fin_bl I q (by simp))
    | bl j => cases ry; exact PySem.EqNone.eq_none_bool (fin_bl I q (by simp))
    | int j => obtain ⟨t', rfl⟩ := ry; exact PySem.EqNone.eq_none_int (fin_bl I q (by simp))
    | str j => obtain ⟨t', rfl⟩ := ry; exact PySem.EqNone.eq_none_str (fin_bl I q (by simp))
    | _ => exact absurd (show false = true from hs) Bool.false_ne_true
  | bl i =>
    cases rx
    cases y with
    | non => cases ry; exact PySem.EqNone.eq_bool_none (fin_bl I q (by simp))
    | bl j => cases ry; exact eq_bool (fin_bl I q dec_bl)
    | str j => obtain ⟨t', rfl⟩ := ry; exact PySem.EqMixed.eq_bool_str (fin_bl I q (by simp))
    | _ => exact absurd (show false = true from hs) Bool.false_ne_true
  | int i =>
    obtain ⟨t, rfl⟩ := rx
    cases y with
    | non => cases ry; exact PySem.EqNone.eq_int_none (fin_bl I q (by simp))
    | int j => obtain ⟨t', rfl⟩ := ry; exact eq_int (fin_bl I q dec_int)
    | str j => obtain ⟨t', rfl⟩ := ry; exact PySem.EqMixed.eq_int_str (fin_bl I q (by simp))
    | _ => exact absurd (show false = true from hs) Bool.false_ne_true
  | str i =>
    obtain ⟨t, rfl⟩ := rx
    cases y with
    | non => cases ry; exact PySem.EqNone.eq_str_none (fin_bl I q (by simp))
    | bl j => cases ry; exact PySem.EqMixed.eq_str_bool (fin_bl I q (by simp))
    | int j => obtain ⟨t', rfl⟩ := ry; exact PySem.EqMixed.eq_str_int (fin_bl I q (by simp))
    | str j => obtain ⟨t', rfl⟩ := ry; exact eq_str (fin_bl I q dec_str)
    | _ => exact absurd (show false = true from hs) Bool.false_ne_true
  | byt i =>
    obtain ⟨t, rfl⟩ := rx
    cases y with
    | byt j => obtain ⟨t', rfl⟩ := ry; exact PySem.W.eq_bytes (fin_bl I q dec_byt)
    | _ => exact absurd (show false = true from hs) Bool.false_ne_true
  | _ => cases y <;> exact absurd (show false = true from hs) Bool.false_ne_true
theorem op_ne : OpR X (compareOp .NotEq) rNe := by
  intro pins s σ H x y v u Q I rx ry h
  obtain ⟨hs, q⟩ := h
  cases x with
  | non =>
    cases rx
    cases y with
    | non => cases ry; exact PySem.EqNone.ne_none_none (fin_bl I q (by simp))
    | bl j => cases ry; exact PySem.EqNone.ne_none_bool (fin_bl I q (by simp))
    | int j => obtain ⟨t', rfl⟩ := ry; exact PySem.EqNone.ne_none_int (fin_bl I q (by simp))
    | str j => obtain ⟨t', rfl⟩ := ry; exact PySem.EqNone.ne_none_str (fin_bl I q (by simp))
    | _ => exact absurd (show false = true from hs) Bool.false_ne_true
  | bl i =>
    cases rx
    cases y with
    | non => cases ry; exact PySem.EqNone.ne_bool_none (fin_bl I q (by simp))
    | bl j => cases ry; exact ne_bool (fin_bl I q (congrArg not dec_bl))
    | str j => obtain ⟨t', rfl⟩ := ry; exact PySem.EqMixed.ne_bool_str (fin_bl I q (by simp))
    | _ => exact absurd (show false = true from hs) Bool.false_ne_true
  | int i =>
    obtain ⟨t, rfl⟩ := rx
    cases y with
    | non => cases ry; exact PySem.EqNone.ne_int_none (fin_bl I q (by simp))
    | int j => obtain ⟨t', rfl⟩ := ry; exact ne_int (fin_bl I q (congrArg not dec_int))
    | str j => obtain ⟨t', rfl⟩ := ry; exact PySem.EqMixed.ne_int_str (fin_bl I q (by simp))
    | _ => exact absurd (show false = true from hs) Bool.false_ne_true
  | str i =>
    obtain ⟨t, rfl⟩ := rx
    cases y with
    | non => cases ry; exact PySem.EqNone.ne_str_none (fin_bl I q (by simp))
    | bl j => cases ry; exact PySem.EqMixed.ne_str_bool (fin_bl I q (by simp))
    | int j => obtain ⟨t', rfl⟩ := ry; exact PySem.EqMixed.ne_str_int (fin_bl I q (by simp))
    | str j => obtain ⟨t', rfl⟩ := ry; exact ne_str (fin_bl I q (congrArg not dec_str))
    | _ => exact absurd (show false = true from hs) Bool.false_ne_true
  | byt i =>
    obtain ⟨t, rfl⟩ := rx
    cases y with
    | byt j => obtain ⟨t', rfl⟩ := ry; exact PySem.W.ne_bytes (fin_bl I q (congrArg not dec_byt))
    | _ => exact absurd (show false = true from hs) Bool.false_ne_true
  | _ => cases y <;> exact absurd (show false = true from hs) Bool.false_ne_true
theorem op_lt : OpR X (compareOp .Lt) (rI0 fun i j => .bl (decide (i < j))) := opB0 fun _ _ _ _ _ _ _ q => lt_int q
theorem op_le : OpR X (compareOp .LtE) (rI0 fun i j => .bl (decide (i ≤ j))) := opB0 fun _ _ _ _ _ _ _ q => le_int q
theorem op_gt : OpR X (compareOp .Gt) (rI0 fun i j => .bl (decide (j < i))) := opB0 fun _ _ _ _ _ _ _ q => gt_int q
theorem op_ge : OpR X (compareOp .GtE) (rI0 fun i j => .bl (decide (j ≤ i))) := opB0 fun _ _ _ _ _ _ _ q => ge_int q
theorem op_in_str : OpR X (compareOp .In) (fun x y H Q => ∃ i j, x = .str i ∧ y = .str j ∧ Q (.bl (!(Builtin.Str.occurrences j i 0 j.length 1).isEmpty)) H) := by
  intro pins s σ H x y v u Q I rx ry h
  obtain ⟨i, j, rfl, rfl, q⟩ := h
  obtain ⟨t, rfl⟩ := rx
  obtain ⟨t', rfl⟩ := ry
  exact in_str (fin_bl I q rfl)
theorem op_notin_str : OpR X (compareOp .NotIn) (fun x y H Q => ∃ i j, x = .str i ∧ y = .str j ∧ Q (.bl (!(!(Builtin.Str.occurrences j i 0 j.length 1).isEmpty))) H) := by
  intro pins s σ H x y v u Q I rx ry h
  obtain ⟨i, j, rfl, rfl, q⟩ := h
  obtain ⟨t, rfl⟩ := rx
  obtain ⟨t', rfl⟩ := ry
  exact notIn_str (fin_bl I q rfl)
theorem nomark (b : Expr) {op : CmpOp} (h : op ≠ .In := by decide) (h2 : op ≠ .NotIn := by decide) : behindInMarks op b = false := by
  have e1 : (op == CmpOp.In) = false := by cases op <;> first | rfl | exact absurd rfl h
  have e2 : (op == CmpOp.NotIn) = false := by cases op <;> first | rfl | exact absurd rfl h2
  cases b <;> simp [behindInMarks, e1, e2]
theorem pe_cmpR {op : CmpOp} {r : R2} (ho : OpR X (compareOp op) r) (ha : PE X a ta) (hb : PE X b tb) (hm : behindInMarks op b = false) : PE X (.Compare a [op] [b] pos) (tOp r ta tb) := by
  intro pins s σ H Q I h
  exact wpAny_Compare1 (binT ha hb I h fun v u s2 x y H2 I2 rx ry q => ho pins s2 σ H2 x y v u Q I2 rx ry q) hm
def tTest (t : TE) : TT := fun σ H Q => t σ H fun x H' => ∃ k, x = .bl k ∧ Q k H'
theorem pt_cmpR {op : CmpOp} {r : R2} (ho : OpR X (compareOp op) r) (ha : PE X a ta) (hb : PE X b tb) (hm : behindInMarks op b = false) : PT X (.Compare a [op] [b] pos) (tTest (tOp r ta tb)) := by
  intro pins s σ H Q I h
  refine wpAny_isTrue_Compare1 (thn (ha pins s σ H _ I h) fun v s1 ⟨x, H1, I1, r1, q1⟩ => thn (hb pins s1 σ H1 _ I1 q1) fun u s2 ⟨y, H2, I2, r2, q2⟩ =>
    thn (ho pins s2 σ H2 x y v u _ I2 r1 r2 q2) fun c s3 ⟨z, H3, I3, r3, k, e, q3⟩ => ?_) hm
  subst e
  cases r3
  exact wpAny_truthy_bool ⟨H3, I3, q3⟩
def tChain (r r' : R2) (ta tb tc : TE) : TE := fun σ H Q => ta σ H fun x H1 => tb σ H1 fun y H2 => r x y H2 fun z H3 => ∃ k, z = .bl k ∧
  (if k = true then tc σ H3 fun w' H4 => r' y w' H4 Q else Q (.bl false) H3)
theorem pe_chain {op op' : CmpOp} {r r' : R2} (ho : OpR X (compareOp op) r) (ho' : OpR X (compareOp op') r') (ha : PE X a ta) (hb : PE X b tb) (hc : PE X c tc)
    (hm : lastMarks [op, op'] [b, c] = false := by with_unfolding_all rfl) : PE X (.Compare a [op, op'] [b, c] pos) (tChain r r' ta tb tc) := by
  intro pins s σ H Q I h
  refine Compare_chain (thn (ha pins s σ H _ I h) fun v s1 ⟨x, H1, I1, r1, q1⟩ => chain_link (thn (hb pins s1 σ H1 _ I1 q1) fun u s2 ⟨y, H2, I2, r2, q2⟩ =>
    thn (ho pins s2 σ H2 x y v u _ I2 r1 r2 q2) fun d s3 ⟨z, H3, I3, r3, k, e, q3⟩ => ?_)) hm
  subst e
  cases r3
  refine wpAny_truthy_bool ?_
  cases k with
  | false => exact ite_ff ⟨.bl false, H3, I3, rfl, q3⟩
  | true => exact ite_tt (chain_last (thn (hc pins s3 σ H3 _ I3 q3) fun w' s4 ⟨z', H4, I4, r4, q4⟩ => ho' pins s4 σ H4 y z' u w' Q I4 r2 r4 q4))
theorem line63 : (sizeLine : Nat) < 2 ^ 63 := by rw [sizeLine_eq]; decide
theorem op_add_str : OpR X (binaryOp .Add) (fun x y H Q => ∃ i j, x = .str i ∧ y = .str j ∧ i.length + j.length ≤ sizeLine ∧ Q (.str (i ++ j)) H) := by
  intro pins s σ H x y v u Q I rx ry h
  obtain ⟨i, j, rfl, rfl, hz, q⟩ := h
  obtain ⟨t, rfl⟩ := rx
  obtain ⟨t', rfl⟩ := ry
  exact add_str (fun t' tk => ⟨.str (i ++ j), H, I.tok _, ⟨_, rfl⟩, q⟩) hz
theorem vals1 {x : V} {us : List Value} (r : Vals [x] us) : ∃ u, us = [u] ∧ RelV x u := by
  cases r with
  | cons r1 r2 => cases r2; exact ⟨_, rfl, r1⟩
theorem vals2 {x y : V} {us : List Value} (r : Vals [x, y] us) : ∃ u w', us = [u, w'] ∧ RelV x u ∧ RelV y w' := by
  cases r with
  | cons r1 r2 =>
    cases r2 with
    | cons r3 r4 => cases r4; exact ⟨_, _, rfl, r1, r3⟩
end
end L2
namespace L2
open PySem PySem.Spec PyProof.Rows
structure ObjM (h : Heap) (x dx C : Addr) (mA : Str → Option Value) : Prop where
  obj : h.get? x = some (PySem.W.instObj C dx)
  ns : h.Ns1 dx mA
  ne : dx ≠ x
theorem lookIn_ns {h : Heap} {dx : Addr} {mA : Str → Option Value} (n : h.Ns1 dx mA) : ∃ od, h.get? dx = some od ∧ ∀ name, PySem.W.lookIn name od = some (mA name) := by
  obtain ⟨o, es, ep, ho, hd, hk, _, hm⟩ := n
  refine ⟨o, ho, fun name => ?_⟩
  have e := hm name
  unfold nsFind findBy at e
  rw [← Array.find?_toList] at e
  unfold PySem.W.lookIn
  rw [hd]
  dsimp only
  split
  · rename_i y q
    rw [q] at e
    exact congrArg some e
  · rename_i q
    rw [q] at e
    have a : es.toList.any (·.refKey) = false := by
      rw [List.any_eq_false]
      intro y hy
      obtain ⟨z, t, hkey⟩ := hk y (Array.mem_toList_iff.mp hy)
      simp [DictEntry.refKey, hkey]
    have a' : ¬ es.toList.any (·.refKey) = true := by rw [a]; exact Bool.false_ne_true
    rw [if_neg a']
    exact congrArg some e
theorem ObjM.look {h : Heap} {x dx C : Addr} {mA : Str → Option Value} (I : ObjM h x dx C mA) : ∃ od, PySem.W.InstAt h x (PySem.W.instObj C dx) C (some od) ∧ ∀ name, PySem.W.lookIn name od = some (mA name) :=
  let ⟨od, ho, hl⟩ := lookIn_ns I.ns
  ⟨od, ⟨I.obj, rfl, rfl, ho⟩, hl⟩
section
variable {prog : Program} {w : World} {A : Around} {E : Value → Shared → Prop} {s : Shared} {K : PySem.W.Frag} {x dx C f : Addr} {mA : Str → Option Value} {name : Str} {v : Value}
theorem get_map {expr : Bool} {Q : Value → Shared → Prop} (X : K.In s.heap) (I : ObjM s.heap x dx C mA) (hg : PySem.W.plainGet K C name = true) (hh : PySem.W.hasDictIn K C = true)
    (ha : PySem.W.findIn K (.ref C) name = some none) (hv : mA name = some v) (hv' : PySem.W.handedIn v = true) (h : Q v { s with toks := s.toks + 1 }) :
    wpAny (model prog w) A (getAttr (.ref x) name expr) Q E s := by
  obtain ⟨od, J, hl⟩ := I.look
  exact PySem.W.get_value X J (PySem.W.plainGet_of hg).1 (PySem.W.findObj_own hh ha rfl (by rw [hl, hv])) hv' h
theorem get_meth {pl : Sem Bool} {Q : Value × List Value → Shared → Prop} (X : K.In s.heap) (I : ObjM s.heap x dx C mA) (hg : PySem.W.plainGet K C name = true)
    (hf : PySem.W.findIn K (.ref C) name = some (some (.ref f))) (ht : PySem.W.isFn K (.ref f) = true) (hv : mA name = none) (h : Q (.ref f, [.ref x]) s) :
    wpAny (model prog w) A (getMethod (.ref x) name pl) Q E s := by
  obtain ⟨od, J, hl⟩ := I.look
  exact PySem.W.method_fn X J (PySem.W.plainGet_of hg).1 (PySem.W.plainGet_of hg).2 hf (beq_iff_eq.mp ht) (by show (PySem.W.lookIn name od).map (·.isSome) = some false; rw [hl, hv]; rfl) h
theorem set_map {ns : List Str} {Q : Unit → Shared → Prop} (X : K.In s.heap) (I : ObjM s.heap x dx C mA)
    (hs : PySem.W.findIn K (.ref C) "__setattr__" = some (some (.builtin "object.__setattr__"))) (hp : PySem.W.plainOver K C = true) (ht : PySem.W.takerIn K C name = some none) (hh : PySem.W.hasDictIn K C = true)
    (hw : PySem.Within mA ns) (hsz : ns.length ≤ sizeLine)
    (h : ∀ h', ObjM h' x dx C (fun y => if y = name then some v else mA y) → Heap.SameBut dx s.heap h' → Q () { s with heap := h', toks := s.toks + 2 }) :
    wpAny (model prog w) A (setAttr (.ref x) name v) Q E s := by
  obtain ⟨od, J, hl⟩ := I.look
  refine PySem.W.set_plain X J hs (PySem.W.osa_open (s := { s with toks := s.toks + 1 }) (r := none) X J hp ht fun b => ?_)
  obtain ⟨cd, hc, hd'⟩ := PySem.W.any_some hh
  have hx : s.heap.get? x = some ⟨.ref C, some dx, .plain, #[]⟩ := I.obj
  refine wpAny_bind (wpAny_pure (wpAny_bind (wpAny_bind (wpAny_loadPart hx (wpAny_bind (PySem.W.Looks.here (s := { s with toks := s.toks + 1 }) (PySem.W.looks_clsIn X hc) ?_))))))
  rw [hd']
  refine wpAny_pure (a := some dx) (wpAny_bind (wpAny_pure (wpAny_bind ?_)))
  refine wpAny_nsSet1 (s := { s with toks := s.toks + 1 }) I.ns fun h' hn2 hs2 => ?_
  obtain ⟨oD, esD, epD, hoD, hdD, hcD⟩ := hn2.count (PySem.Within.cons name v hw)
  refine wpAny_bind (wpAny_lookBehind hoD (by rw [hdD]; exact pastItsLine_dict (Nat.le_trans hcD (by rw [List.length_cons]; omega))) ?_)
  exact wpAny_pure (h _ ⟨(hs2.2 _ (Ne.symm I.ne)).trans I.obj, hn2, I.ne⟩ hs2)
theorem make_map {R : Result → Shared → Prop} {vs : List Value} {kw : List (Str × Value)} (X : K.In s.heap) (hm : PySem.W.makesIn K C = true)
    (hi : PySem.W.findIn K (.ref C) "__init__" = some (some (.ref f))) (hf : PySem.W.typeIn K (.ref f) = some (.type "function"))
    (h : codeAny (model prog w) (A.under (.builtin "type.__call__" ⟨.ref C :: vs, kw⟩)) (.call (.ref f) ⟨.ref (s.heap.objs.size + 1) :: vs, kw⟩) (PySem.W.InitBack (s.heap.objs.size + 1) R)
      { s with heap := (s.heap.push PySem.W.emptyDict).push (PySem.W.instObj C s.heap.objs.size) }) :
    codeAny (model prog w) A (.call (.ref C) ⟨vs, kw⟩) R s := by
  obtain ⟨hh, g, d, t, os⟩ := s
  exact PySem.W.make_core (PySem.W.makes_of X hm) (PySem.W.looks_findIn X hi) (fun self => PySem.W.bind_fn X self hf) (.inl rfl) h
theorem make_map0 {R : Result → Shared → Prop} (X : K.In s.heap) (hm : PySem.W.makesIn K C = true)
    (hi : PySem.W.findIn K (.ref C) "__init__" = some (some (.builtin "object.__init__")))
    (hb : ∀ self, PySem.W.Looks (model prog w) s.heap (bindSpecial (.builtin "object.__init__") self) (.builtin "object.__init__", [self]))
    (h : codeAny (model prog w) (A.under (.builtin "type.__call__" ⟨[.ref C], []⟩)) (.call (.builtin "object.__init__") ⟨[.ref (s.heap.objs.size + 1)], []⟩) (PySem.W.InitBack (s.heap.objs.size + 1) R)
      { s with heap := (s.heap.push PySem.W.emptyDict).push (PySem.W.instObj C s.heap.objs.size) }) :
    codeAny (model prog w) A (.call (.ref C) ⟨[], []⟩) R s := by
  obtain ⟨hh, g, d, t, os⟩ := s
  exact PySem.W.make_core (PySem.W.makes_of X hm) (PySem.W.looks_findIn X hi) hb (.inr ⟨rfl, rfl⟩) h
end
def putF (f : Str) (v : V) : List (Str × V) → List (Str × V)
  | [] => [(f, v)]
  | (g, x) :: r => if g = f then (g, v) :: r else (g, x) :: putF f v r
theorem lookup_putF (f g : Str) (v : V) : ∀ fs : List (Str × V), (putF f v fs).lookup g = if g = f then some v else fs.lookup g
  | [] => by
    show List.lookup g [(f, v)] = _
    by_cases h : g = f
    · have hb : (g == f) = true := beq_iff_eq.mpr h
      simp only [List.lookup, hb, if_pos h]
    · have hb : (g == f) = false := beq_eq_false_iff_ne.mpr h
      simp only [List.lookup, hb, if_neg h]
  | (k, x) :: r => by
    have ih := lookup_putF f g v r
    rw [show putF f v ((k, x) :: r) = (if k = f then (k, v) :: r else (k, x) :: putF f v r) from rfl]
    by_cases hk : k = f
    · rw [if_pos hk]
      by_cases h : g = k
      · have hb : (g == k) = true := beq_iff_eq.mpr h
        simp only [List.lookup, hb, if_pos (h.trans hk)]
      · have hb : (g == k) = false := beq_eq_false_iff_ne.mpr h
        simp only [List.lookup, hb, if_neg (fun e : g = f => h (e.trans hk.symm))]
    · rw [if_neg hk]
      by_cases h : g = k
      · have hb : (g == k) = true := beq_iff_eq.mpr h
        simp only [List.lookup, hb, if_neg (fun e : g = f => hk (h.symm.trans e))]
      · have hb : (g == k) = false := beq_eq_false_iff_ne.mpr h
        simp only [List.lookup, hb]
        exact ih
theorem keys_putF (f : Str) (v : V) : ∀ fs : List (Str × V), f ∈ (putF f v fs).map (·.1) ∧ ∀ g, g ∈ fs.map (·.1) → g ∈ (putF f v fs).map (·.1)
  | [] => ⟨by simp [putF], fun g h => by simp at h⟩
  | (k, x) :: r => by
    obtain ⟨i1, i2⟩ := keys_putF f v r
    rw [show putF f v ((k, x) :: r) = (if k = f then (k, v) :: r else (k, x) :: putF f v r) from rfl]
    by_cases hk : k = f
    · rw [if_pos hk]
      subst hk
      exact ⟨by simp, fun g h => by simpa using h⟩
    · rw [if_neg hk]
      refine ⟨?_, fun g h => ?_⟩
      · rw [List.map_cons]
        exact List.mem_cons_of_mem _ i1
      · rw [List.map_cons] at h ⊢
        rcases List.mem_cons.mp h with e | e
        · exact List.mem_cons.mpr (.inl e)
        · exact List.mem_cons_of_mem _ (i2 g e)
theorem length_putF (f : Str) (v : V) : ∀ fs : List (Str × V), (putF f v fs).length ≤ fs.length + 1
  | [] => by simp [putF]
  | (k, x) :: r => by
    have ih := length_putF f v r
    rw [show putF f v ((k, x) :: r) = (if k = f then (k, v) :: r else (k, x) :: putF f v r) from rfl]
    by_cases hk : k = f
    · rw [if_pos hk, List.length_cons, List.length_cons]; omega
    · rw [if_neg hk, List.length_cons, List.length_cons]; omega
theorem RelO.some_of {v : V} {o : Option Value} (r : RelO (some v) o) : ∃ u, o = some u ∧ RelV v u := by
  cases o with
  | none => exact (show False from r).elim
  | some u => exact ⟨u, rfl, r⟩
theorem RelO.none_of {o : Option Value} (r : RelO none o) : o = none := by
  cases o with
  | none => rfl
  | some u => exact (show False from r).elim
theorem handed_of {v : V} {u : Value} (r : RelV v u) : PySem.W.handedIn u = true := by
  cases v with
  | non => cases (show u = Value.none from r); rfl
  | bl b => cases (show u = Value.bool b from r); rfl
  | int i => obtain ⟨t, e⟩ := (show ∃ t, u = Value.int i t from r); cases e; rfl
  | str x => obtain ⟨t, e⟩ := (show ∃ t, u = Value.str x t from r); cases e; rfl
  | byt b => obtain ⟨t, e⟩ := (show ∃ t, u = Value.bytes b t from r); cases e; rfl
  | flt b => obtain ⟨t, e⟩ := (show ∃ t, u = Value.float b t from r); cases e; rfl
  | ref a => cases (show u = Value.ref a from r); rfl
  | ty n => cases (show u = Value.type n from r); rfl
section
variable {P : Program} {w : World} {H H' : Hp} {h h' : Heap} {a C dx : Addr} {fs fs' : List (Str × V)}
theorem ins_get (hok : HOk P w H h) (e : H a = some (.ins C dx fs)) : ∃ mA, ObjM h a dx C mA ∧ (∀ f, RelO (fs.lookup f) (mA f)) ∧ PySem.Within mA (fs.map (·.1)) ∧ fs.length ≤ 1000 ∧ H dx = some (.own a) := by
  obtain ⟨d, z, ne, ob, mA, n, r, q⟩ := (show ObjOk P w H h a (.ins C dx fs) from hok a _ e)
  exact ⟨mA, ⟨ob, n, ne⟩, r, q, z, d⟩
end
structure Cls (K : PySem.W.Frag) (C : Addr) : Prop where
  pg : PySem.W.plainGet K C Str.empty = true
  hd : PySem.W.hasDictIn K C = true
  po : PySem.W.plainOver K C = true
  sa : PySem.W.findIn K (.ref C) "__setattr__" = some (some (.builtin "object.__setattr__"))
theorem Cls.get {K : PySem.W.Frag} {C : Addr} (c : Cls K C) (f : Str) : PySem.W.plainGet K C f = true := c.pg
def NoAttr (K : PySem.W.Frag) (C : Addr) (f : Str) : Prop := PySem.W.findIn K (.ref C) f = some none
theorem NoAttr.taker {K : PySem.W.Frag} {C : Addr} {f : Str} (n : NoAttr K C f) : PySem.W.takerIn K C f = some none := by
  unfold PySem.W.takerIn
  rw [show PySem.W.findIn K (.ref C) f = some none from n]
  rfl
structure Con (K : PySem.W.Frag) (C : Addr) (f : Str) (v : V) (u : Value) : Prop where
  at_ : PySem.W.findIn K (.ref C) f = some (some u)
  rel : RelV v u
  get : PySem.W.specialIn K u "__get__" = some none
  cp : PySem.W.copiedNames.contains f = false
structure Meth (K : PySem.W.Frag) (C : Addr) (m : Str) (f : Addr) : Prop where
  at_ : PySem.W.findIn K (.ref C) m = some (some (.ref f))
  fn : PySem.W.isFn K (.ref f) = true
  kp : PySem.W.keepIn K (.ref f) = true
section
variable {X : Cx} {pins : List (Addr × Obj)} {σ : St} {H : Hp} {s : Shared} {a C dx : Addr} {fs : List (Str × V)} {f : Str} {v : V} {A : Around} {E : Value → Shared → Prop}
theorem getattr_ok {b : Bool} {Q : Value → Shared → Prop} (I : Inv X pins σ H s) (e : H a = some (.ins C dx fs)) (c : Cls X.K C) (n : NoAttr X.K C f) (l : fs.lookup f = some v)
    (h : ∀ u s', Inv X pins σ H s' → RelV v u → Q u s') : wpAny (model X.prog X.w) A (getAttr (.ref a) f b) Q E s := by
  obtain ⟨mA, O, r, _, _, _⟩ := ins_get I.hok e
  obtain ⟨u, hu, ru⟩ := RelO.some_of (v := v) (o := mA f) (by rw [← l]; exact r f)
  exact get_map I.kIn O (c.get f) c.hd n hu (handed_of ru) (h u _ (I.tok _) ru)
theorem getmeth_ok {m : Str} {g : Addr} {pl : Sem Bool} {Q : Value × List Value → Shared → Prop} (I : Inv X pins σ H s) (e : H a = some (.ins C dx fs)) (c : Cls X.K C) (k : Meth X.K C m g) (l : fs.lookup m = none)
    (h : Q (.ref g, [.ref a]) s) : wpAny (model X.prog X.w) A (getMethod (.ref a) m pl) Q E s := by
  obtain ⟨mA, O, r, _, _, _⟩ := ins_get I.hok e
  have hn : mA m = none := RelO.none_of (by rw [← l]; exact r m)
  exact get_meth I.kIn O (c.get m) k.at_ k.fn hn h
theorem setattr_ok {y : V} {u : Value} {Q : Unit → Shared → Prop} (I : Inv X pins σ H s) (e : H a = some (.ins C dx fs)) (c : Cls X.K C) (n : NoAttr X.K C f) (hl : fs.length < 1000) (ry : RelV y u)
    (h : ∀ s', Inv X pins σ (upd H a (.ins C dx (putF f y fs))) s' → Q () s') : wpAny (model X.prog X.w) A (setAttr (.ref a) f u) Q E s := by
  obtain ⟨mA, O, r, wi, _, ho⟩ := ins_get I.hok e
  have hz : (fs.map (·.1)).length ≤ sizeLine := by rw [List.length_map, sizeLine_eq]; omega
  refine set_map I.kIn O c.sa c.po n.taker c.hd wi hz fun h' O' sb => h _ ?_
  have hd : ∃ o, h'.get? dx = some o := let ⟨o, _, _, e', _⟩ := O'.ns; ⟨o, e'⟩
  refine I.write (x := a) (e := dx) (by rw [e]; exact True.intro) (.inr ho) (fun b q hb z => (sb.2 b hb).trans z) hd ?_
  refine ⟨by rw [upd_ne O.ne]; exact ho, ?_, O.ne, O'.obj, _, O'.ns, fun g => ?_, fun g hg => ?_⟩
  · have := length_putF f y fs; omega
  · show RelO ((putF f y fs).lookup g) (if g = f then some u else mA g)
    rw [lookup_putF]
    by_cases q : g = f
    · rw [if_pos q, if_pos q]; exact ry
    · rw [if_neg q, if_neg q]; exact r g
  · by_cases q : g = f
    · rw [q]; exact (keys_putF f y fs).1
    · refine (keys_putF f y fs).2 g (wi g fun z => hg ?_)
      show (if g = f then some u else mA g) = none
      rw [if_neg q]; exact z
theorem Inv.made (I : Inv X pins σ H s) : Inv X pins σ (upd (upd H s.heap.objs.size (.own (s.heap.objs.size + 1))) (s.heap.objs.size + 1) (.ins C s.heap.objs.size []))
    { s with heap := (s.heap.push PySem.W.emptyDict).push (PySem.W.instObj C s.heap.objs.size) } := by
  have e1 : (s.heap.push PySem.W.emptyDict).get? s.heap.objs.size = some PySem.W.emptyDict := Heap.get?_push_size s.heap rfl
  have e2 : ((s.heap.push PySem.W.emptyDict).push (PySem.W.instObj C s.heap.objs.size)).get? (s.heap.objs.size + 1) = some (PySem.W.instObj C s.heap.objs.size) := by
    have := Heap.get?_push_size (s.heap.push PySem.W.emptyDict) (o := PySem.W.instObj C s.heap.objs.size) rfl
    rwa [Heap.size_push] at this
  have e3 : (s.heap.push PySem.W.emptyDict).Ns s.heap.objs.size (fun _ => none) := ⟨PySem.W.emptyDict, #[], _, e1, rfl, (fun e he => absurd he (by simp)), fun _ => rfl⟩
  have I1 := I.laid (a := s.heap.objs.size) (o := .own (s.heap.objs.size + 1)) (h' := s.heap.push PySem.W.emptyDict) (t' := s.toks) (fun b u q => Heap.get?_push_of_some _ q) (Nat.le_refl _) ⟨_, e1⟩
  refine I1.laid (a := s.heap.objs.size + 1) (o := .ins C s.heap.objs.size []) (t' := s.toks) (fun b u q => Heap.get?_push_of_some _ q) (Nat.le_of_eq (Heap.size_push _ _)) ?_
  have ne : s.heap.objs.size ≠ s.heap.objs.size + 1 := Nat.ne_of_lt (Nat.lt_succ_self _)
  refine ⟨by rw [upd_ne ne, upd_same], Nat.zero_le _, ne, e2, fun _ => none, (Heap.Ns1.of_empty e3).at fun o q => Heap.get?_push_of_some _ q, fun _ => True.intro, fun y hy => absurd rfl hy⟩
theorem attr_of {prog : Program} {w : World} {env : Env} {e : Expr} {f : Str} {pos : Pos} {s : Shared} {Q : Value → Shared → Prop} (hb : attributeBase e f env (eval e env) = eval e env)
    (h : wpAny (model prog w) A (eval e env) (fun o s₁ => wpAny (model prog w) A (getAttr o f true) Q E s₁) E s) : wpAny (model prog w) A (eval (.Attribute e f pos) env) Q E s :=
  Attribute_any_ h (by rw [arm_eval_Attribute, hb])
end
def tFld (K : PySem.W.Frag) (ta : TE) (f : Str) : TE := fun σ H Q => ta σ H fun x H1 => ∃ a C dx fs v, x = .ref a ∧ H1 a = some (.ins C dx fs) ∧ Cls K C ∧ NoAttr K C f ∧ fs.lookup f = some v ∧ Q v H1
def sFld (K : PySem.W.Frag) (ta tv : TE) (f : Str) : TS := fun D σ H => tv σ H fun y H1 => ta σ H1 fun x H2 => ∃ a C dx fs, x = .ref a ∧ H2 a = some (.ins C dx fs) ∧ Cls K C ∧ NoAttr K C f ∧ fs.length < 1000 ∧
  D.nx σ (upd H2 a (.ins C dx (putF f y fs)))
section
variable {X : Cx} {o e value : Expr} {f : Str} {pos pos' tpos : Pos} {ta tv : TE}
theorem pe_fld (he : PE X e ta) (hb : attributeBase e f X.env (eval e X.env) = eval e X.env) : PE X (.Attribute e f pos) (tFld X.K ta f) := by
  intro pins s σ H Q I h
  refine attr_of hb (thn (he pins s σ H _ I h) fun u s1 ⟨x, H1, I1, rx, a, C, dx, fs, v, ex, ea, c, n, l, q⟩ => ?_)
  subst ex
  obtain rfl : u = Value.ref a := rx
  exact getattr_ok I1 ea c n l fun u' s2 I2 ru => ⟨v, H1, I2, ru, q⟩
theorem ps_fld (ha : PE X o ta) (hv : PE X value tv) (hs : swapsWith value (some (.Attribute o f pos')) pos.line X.env = pure false) : PS X (.Assign [.Attribute o f pos'] value pos) (sFld X.K ta tv f) := by
  intro pins s σ H D I h
  refine plainObj_wpAny_Assign_Attribute (thn (hv pins s σ H _ I h) fun u s1 ⟨y, H1, I1, ry, q⟩ => thn (ha pins s1 σ H1 _ I1 q) fun ov s2 ⟨x, H2, I2, rx, a, C, dx, fs, ex, ea, c, n, l, q2⟩ => ?_) hs
  subst ex
  obtain rfl : ov = Value.ref a := rx
  exact setattr_ok I2 ea c n l ry fun s3 I3 => ⟨σ, _, I3, q2⟩
theorem methcall_of {pl : Sem Bool} {m : Str} {apos : Pos} {args : List Expr} {pins : List (Addr × Obj)} {s : Shared} {σ : St} {H : Hp} {Q : Value → Shared → Prop} {te : TE} (he : PE X e te) (I : Inv X pins σ H s)
    (h : te σ H fun x H1 => ∃ a C dx fs g, x = .ref a ∧ H1 a = some (.ins C dx fs) ∧ Cls X.K C ∧ Meth X.K C m g ∧ fs.lookup m = none ∧
      ∀ s1, Inv X pins σ H1 s1 → wpAny (model X.prog X.w) X.A (callWith pos (.ref g) [.ref a] (backTo pos (starEach args X.env)) (backToKw pos (keywordEach [] X.env))) Q X.xe s1)
    (ht : eval (.Call (.Attribute e m apos) args [] pos) X.env = (do
      let ov ← eval e X.env
      standAt apos.atName
      let (f, first) ← holding [ov] (getMethod ov m pl)
      callWith pos f first (backTo pos (starEach args X.env)) (backToKw pos (keywordEach [] X.env)))) :
    wpAny (model X.prog X.w) X.A (eval (.Call (.Attribute e m apos) args [] pos) X.env) Q X.xe s := by
  refine PySem.W.methodCall_KW (pl := pl) (thn (he pins s σ H _ I h) fun u s1 ⟨x, H1, I1, rx, a, C, dx, fs, g, ex, ea, c, k, l, q⟩ => ?_) ht
  subst ex
  obtain rfl : u = Value.ref a := rx
  exact getmeth_ok I1 ea c k l (q s1 I1)
end
section
variable {X : Cx} {pins : List (Addr × Obj)} {σ : St} {H : Hp} {s : Shared} {A : Around} {E : Value → Shared → Prop} {Q : Value → Shared → Prop} {c : Value} {b : Bool}
inductive TyOf (K : PySem.W.Frag) (H : Hp) : V → Value → Prop where
  | non : TyOf K H .non (.type "NoneType")
  | bl (x : Bool) : TyOf K H (.bl x) (.type "bool")
  | int (i : Int) : TyOf K H (.int i) (.type "int")
  | str (x : Str) : TyOf K H (.str x) (.type "str")
  | flt (x : UInt64) : TyOf K H (.flt x) (.type "float")
  | lst {a : Addr} {xs : List V} (e : H a = some (.lst xs)) : TyOf K H (.ref a) (.type "list")
  | frz {a : Addr} {o : Obj} {xs : List V} (e : H a = some (.frz o (.lst xs))) : TyOf K H (.ref a) (.type "list")
  | tup {a : Addr} {xs : List V} (e : H a = some (.tup xs)) : TyOf K H (.ref a) (.type "tuple")
  | dK {a : Addr} {kvs : List (Key × V)} (e : H a = some (.dK kvs)) : TyOf K H (.ref a) (.type "dict")
  | dT {a : Addr} {kvs : List (List Key × V)} (e : H a = some (.dT kvs)) : TyOf K H (.ref a) (.type "dict")
  | ins {a C dx : Addr} {fs : List (Str × V)} (e : H a = some (.ins C dx fs)) (cl : Cls K C) (ha : PySem.W.findIn K (.ref C) "__class__" = some (some (.builtin "object.__class__")))
      (hn : PySem.W.specialIn K (.builtin "object.__class__") "__get__" = some (some (.builtin "getset_descriptor.__get__"))) (htk : PySem.W.takesIn K (.builtin "object.__class__") = some true)
      (hm : PySem.W.mroIn K C (.type "object") = some true) : TyOf K H (.ref a) (.ref C)
theorem isinst_ok {x : V} {u t : Value} (I : Inv X pins σ H s) (rx : RelV x u) (ty : TyOf X.K H x t) (e : PySem.W.kitOne X.K t c = some b) (h : ∀ tk, Q (.bool b) { s with toks := tk }) :
    wpAny (model X.prog X.w) A (call (.builtin "isinstance") [u, c]) Q E s := by
  cases ty with
  | non => cases (show u = Value.none from rx); exact PySem.W.kia_one PySem.W.kitx_none I.kIn True.intro e (fun z => nomatch z) h
  | bl y => cases (show u = Value.bool y from rx); exact PySem.W.kia_one PySem.W.kitx_bool I.kIn True.intro e (fun z => nomatch z) h
  | int i => obtain ⟨t, q⟩ := (show ∃ t, u = Value.int i t from rx); cases q; exact PySem.W.kia_one PySem.W.kitx_int I.kIn True.intro e (fun z => nomatch z) h
  | str y => obtain ⟨t, q⟩ := (show ∃ t, u = Value.str y t from rx); cases q; exact PySem.W.kia_one PySem.W.kitx_str I.kIn True.intro e (fun z => nomatch z) h
  | flt y => obtain ⟨t, q⟩ := (show ∃ t, u = Value.float y t from rx); cases q; exact PySem.W.kia_one PySem.W.kitx_float I.kIn True.intro e (fun z => nomatch z) h
  | @lst a xs ea =>
    cases (show u = Value.ref a from rx)
    obtain ⟨_, _, n, _, h1⟩ := (show ObjOk X.prog X.w H s.heap a (.lst xs) from I.hok a _ ea)
    exact PySem.W.kia_one PySem.W.kitx_list I.kIn ⟨_, h1, rfl⟩ e (fun z => nomatch z) h
  | @frz a ob xs ea =>
    cases (show u = Value.ref a from rx)
    obtain ⟨_, _, _, n, _, h1⟩ := (show ObjOk X.prog X.w H s.heap a (.frz ob (.lst xs)) from I.hok a _ ea)
    exact PySem.W.kia_one PySem.W.kitx_list I.kIn ⟨_, h1, rfl⟩ e (fun z => nomatch z) h
  | @tup a xs ea =>
    cases (show u = Value.ref a from rx)
    obtain ⟨_, _, _, p⟩ := (show ObjOk X.prog X.w H s.heap a (.tup xs) from I.hok a _ ea)
    obtain ⟨o, h1, h2, _⟩ := p
    exact PySem.W.kia_one PySem.W.kitx_tuple I.kIn ⟨o, h1, h2⟩ e (fun z => nomatch z) h
  | @dK a kvs ea =>
    cases (show u = Value.ref a from rx)
    obtain ⟨_, _, vs, _, p⟩ := (show ObjOk X.prog X.w H s.heap a (.dK kvs) from I.hok a _ ea)
    obtain ⟨o, es, ep, h1, h2, _⟩ := p
    exact PySem.W.kia_one PySem.W.kitx_dict I.kIn ⟨o, h1, h2.1⟩ e (fun z => nomatch z) h
  | @dT a kvs ea =>
    cases (show u = Value.ref a from rx)
    obtain ⟨_, _, xs, _, o, es, ep, h1, h2, _⟩ := (show ObjOk X.prog X.w H s.heap a (.dT kvs) from I.hok a _ ea)
    exact PySem.W.kia_one PySem.W.kitx_dict I.kIn ⟨o, h1, h2.1⟩ e (fun z => nomatch z) h
  | @ins a C dx fs ea cl ha hn htk hm =>
    cases (show u = Value.ref a from rx)
    obtain ⟨mA, O, _⟩ := ins_get I.hok ea
    obtain ⟨od, J, _⟩ := O.look
    exact PySem.W.kia_one (PySem.W.kitx_own (cl.get _) cl.hd ha hn htk hm) I.kIn J e (fun z => nomatch z) h
end
end L2
namespace L2
open PySem PySem.Spec PyProof.Rows
structure Room (k : Nat) (A : Around) : Prop where
  hd : A.handled = none
  dp : A.depth + 3 * k + 5 < recursionLimit
  un : A.units + 16 * k + 200 < cLine
theorem Room.mono {j k : Nat} {A : Around} (r : Room k A) (h : j ≤ k) : Room j A := ⟨r.hd, by have := r.dp; omega, by have := r.un; omega⟩
theorem Room.deeper {k : Nat} {A : Around} (r : Room (k + 1) A) (env : Env) : Room k (A.deeper env) :=
  ⟨r.hd, by have := r.dp; show A.depth + 1 + 3 * k + 5 < _; omega, by have := r.un; show A.units + 3 + 16 * k + 200 < _; omega⟩
theorem make_depth {A : Around} {C : Addr} {us : List Value} {kw : List (Str × Value)} : (A.under (.builtin "type.__call__" ⟨.ref C :: us, kw⟩)).depth = A.depth + 1 := by
  first | rfl | simp [Around.under, Code.weight, Code.isCreation, Code.isGuard, Code.isCaller, Code.frames, Code.isFrame, guardIds]
theorem make_units {A : Around} {C : Addr} {us : List Value} {kw : List (Str × Value)} : (A.under (.builtin "type.__call__" ⟨.ref C :: us, kw⟩)).units = A.units + 1 := by
  first | rfl | simp [Around.under, Code.cUnits, Code.frames, Code.isFrame]
theorem Room.make {k : Nat} {A : Around} (r : Room (k + 1) A) (C : Addr) (us : List Value) (kw : List (Str × Value)) : Room k (A.under (.builtin "type.__call__" ⟨.ref C :: us, kw⟩)) :=
  ⟨r.hd, by have := r.dp; rw [make_depth]; omega, by have := r.un; rw [make_units]; omega⟩
theorem Room.depth {k : Nat} {A : Around} (r : Room k A) : A.depth < recursionLimit := by have := r.dp; omega
theorem Room.units {k : Nat} {A : Around} (r : Room k A) : A.units + 64 < cLine := by have := r.un; omega
def tNil : TA := fun _ H Q => Q [] H
def tCons (ta : TE) (tr : TA) : TA := fun σ H Q => ta σ H fun x H1 => tr σ H1 fun xs H2 => Q (x :: xs) H2
section
variable {X : Cx} {e : Expr} {es : List Expr} {te : TE} {t : TA} {pos : Pos}
theorem pa_nil : PA X [] tNil := fun _ _ _ _ H Q I h => Calls.spliced_nil ⟨[], H, I, .nil, h⟩
theorem pa_cons (ha : PE X e te) (hr : PA X es t) (hs : starEach (e :: es) X.env = (false, eval e X.env) :: starEach es X.env := by rfl) : PA X (e :: es) (tCons te t) := by
  intro pos pins s σ H Q I h
  rw [hs]
  show wpAny _ _ (spliced ((false, eval e X.env) :: backTo pos (starEach es X.env))) _ _ s
  refine Calls.spliced_cons (thn (ha pins s σ H _ I h) fun u s1 ⟨x, H1, I1, r1, q1⟩ => ?_)
  exact thn (hr pos pins s1 σ H1 _ I1 q1) fun us s2 ⟨xs, H2, I2, r2, q2⟩ => ⟨x :: xs, H2, I2, .cons r1 r2, q2⟩
def tTup (t : TA) : TE := fun σ H Q => t σ H fun xs H1 => xs.length ≤ sizeLine ∧ ∀ p, H1 p = none → Q (.ref p) (upd H1 p (.tup xs))
def tLst (t : TA) : TE := fun σ H Q => t σ H fun xs H1 => xs.length ≤ sizeLine ∧ ∀ p, H1 p = none → Q (.ref p) (upd H1 p (.lst xs))
theorem pe_tup {x1} (h : PA X es t) : PE X (.Tuple es x1 pos) (tTup t) := by
  intro pins s σ H Q I hq
  refine wpAny_Tuple_spliced (thn (h pos pins s σ H _ I hq) fun us s1 ⟨xs, H1, I1, r, z, q⟩ => ⟨by rw [← r.length]; exact z, ?_⟩)
  have hf : H1 s1.heap.objs.size = none := I1.hok.fresh (Nat.le_refl _)
  refine ⟨.ref s1.heap.objs.size, upd H1 s1.heap.objs.size (.tup xs), I1.laid (t' := s1.toks) (fun b u e => Heap.get?_push_of_some _ e) (Nat.le_refl _) ?_, rfl, q _ hf⟩
  exact ⟨z, us, r, ⟨_, Heap.get?_push_size _ rfl, rfl, _, rfl⟩⟩
theorem pe_lst (h : PA X es t) : PE X (.List es pos) (tLst t) := by
  intro pins s σ H Q I hq
  refine wpAny_List_spliced (thn (h pos pins s σ H _ I hq) fun us s1 ⟨xs, H1, I1, r, z, q⟩ => ⟨by rw [← r.length]; exact z, ?_⟩)
  have hf : H1 s1.heap.objs.size = none := I1.hok.fresh (Nat.le_refl _)
  refine ⟨.ref s1.heap.objs.size, upd H1 s1.heap.objs.size (.lst xs), I1.laid (t' := s1.toks) (fun b u e => Heap.get?_push_of_some _ e) (Nat.le_refl _) ?_, rfl, q _ hf⟩
  exact ⟨z, us, 0, r, Heap.get?_push_size _ rfl⟩
end
abbrev Sp := List V → Hp → VK → XK → Prop
abbrev CXT := List Env → Hp → Shared → XK → Value → Shared → Prop
structure Env0 (P : Program) (w : World) (K : PySem.W.Frag) (mg : Str → Option Value) (base : Heap) (A : Around) (outer : List Env) (s : Shared) (H : Hp) : Prop where
  frames : A.frames = some outer
  mod : Mod K mg base
  bs : ∀ b o, base.get? b = some o → s.heap.get? b = some o ∧ H b = none
  bsz : base.objs.size ≤ s.heap.objs.size
  funs : s.heap.FunFrames base outer
  frf : ∀ b ∈ frs outer, H b = none
  hok : HOk P w H s.heap
  bare : AllBare s.gens
def CE (outer : List Env) (P : Program) (w : World) (H : Hp) (s : Shared) (Q : VK) (u : Value) (s' : Shared) : Prop :=
  ∃ v H', s'.os = s.os ∧ AllBare s'.gens ∧ Un (frs outer) [] H H' s.heap s'.heap ∧ HOk P w H' s'.heap ∧ RelV v u ∧ Q v H'
def CR (CX : CXT) (outer : List Env) (P : Program) (w : World) (H : Hp) (s : Shared) (Q : VK) (E : XK) (r : Result) (s' : Shared) : Prop :=
  match r with
  | .ok (.ret u) => CE outer P w H s Q u s'
  | .ok _ => False
  | .error e => CX outer H s E e s'
structure FnOk (P : Program) (w : World) (K : PySem.W.Frag) (mg : Str → Option Value) (base : Heap) (CX : CXT) (k : Nat) (f : Addr) (fd : FuncData) (ps : List Str) (sp : Sp) : Prop where
  len : ∀ vs H Q E, sp vs H Q E → vs.length = ps.length
  run : ∀ (A : Around) (outer : List Env) (s : Shared) (H : Hp) (args : Args) (us : List Value) (vs : List V) (Q : VK) (E : XK), Room k A → Env0 P w K mg base A outer s H → BindsTo s fd args (ps.zip us) → Vals vs us → sp vs H Q E →
    codeAny (model P w) A (.call (.ref f) args) (CR CX outer P w H s Q E) s
theorem Env0.make {P : Program} {w : World} {K : PySem.W.Frag} {mg : Str → Option Value} {base : Heap} {A : Around} {outer : List Env} {s : Shared} {H : Hp} (e : Env0 P w K mg base A outer s H) (C : Addr) (us : List Value) (kw : List (Str × Value)) :
    Env0 P w K mg base (A.under (.builtin "type.__call__" ⟨.ref C :: us, kw⟩)) outer s H := ⟨by first | exact e.frames | (simpa [Around.under, Code.envs, Code.isFrame, pushEnvs] using e.frames), e.mod, e.bs, e.bsz, e.funs, e.frf, e.hok, e.bare⟩
section
variable {X : Cx} {pins : List (Addr × Obj)} {σ : St} {H : Hp} {s s' : Shared}
theorem Inv.env0 (I : Inv X pins σ H s) : Env0 X.prog X.w X.K X.mg X.base X.A X.stack s H :=
  ⟨I.ok.frames, I.ok.mod, I.bs, Nat.le_trans I.ok.bsz I.sz, I.stack, I.stkFree, I.hok, I.bare⟩
theorem Inv.after {Q : VK} {u : Value} (I : Inv X pins σ H s) (h : CE X.stack X.prog X.w H s Q u s') : EP X pins σ Q u s' := by
  obtain ⟨v, H', os, bare, un, hok, r, q⟩ := h
  obtain ⟨hh, g, d, t, os'⟩ := s'
  obtain rfl : os' = s.os := os
  exact ⟨v, H', I.call (h' := hh) (g' := g) (d' := d) (t' := t) (ch := []) un hok bare (fun b z => absurd z (by simp)), r, q⟩
end
def tCall (sp : Sp) (dvs : List V) (E : XK) (t : TA) : TE := fun σ H Q => t σ H fun vs H1 => sp (vs ++ dvs) H1 Q E
def tMeth (C : Addr) (m : Str) (sp : Sp) (dvs : List V) (E : XK) (ta : TE) (t : TA) : TE := fun σ H Q => ta σ H fun x H1 => ∃ a dx fs, x = .ref a ∧ H1 a = some (.ins C dx fs) ∧ fs.lookup m = none ∧
  t σ H1 fun vs H2 => sp (x :: (vs ++ dvs)) H2 Q E
def tMake (C : Addr) (sp : Sp) (dvs : List V) (E : XK) (t : TA) : TE := fun σ H Q => t σ H fun vs H1 => ∀ x dx, H1 x = none → H1 dx = none → dx ≠ x →
  sp (.ref x :: (vs ++ dvs)) (upd (upd H1 dx (.own x)) x (.ins C dx [])) (fun v H2 => v = .non ∧ Q (.ref x) H2) E
def Binds (K : PySem.W.Frag) (fd : FuncData) (ps : List Str) (ds : List Value) : Prop :=
  ∀ (s : Shared) (us : List Value), K.In s.heap → (us ++ ds).length = ps.length → BindsTo s fd ⟨us, []⟩ (ps.zip (us ++ ds))
theorem Binds.all {K : PySem.W.Frag} {fd : FuncData} {ps : List Str} (h : ∀ us : List Value, us.length = ps.length → bindArgs fd ⟨us, []⟩ = pure (ps.zip us)) : Binds K fd ps [] := fun s us _ hl => by
  rw [List.append_nil] at hl ⊢
  exact .of_eq (h us hl)
def Passes (CX : CXT) (X : Cx) (E : XK) : Prop := ∀ (pins : List (Addr × Obj)) (σ : St) (H : Hp) (s : Shared) (e : Value) (s' : Shared), Inv X pins σ H s → CX X.stack H s E e s' → X.xe e s'
section
variable {X : Cx} {CX : CXT} {k : Nat} {f C : Addr} {fd : FuncData} {ps : List Str} {sp : Sp} {dvs : List V} {ds : List Value} {E : XK} {x m : Str} {p pos apos : Pos} {e o : Expr} {es : List Expr} {ta : TE} {t : TA}
theorem run_fn {pins : List (Addr × Obj)} {σ : St} {H : Hp} {s : Shared} {Q : VK} {us : List Value} {vs : List V} (F : FnOk X.prog X.w X.K X.mg X.base CX k f fd ps sp) (hr : Room k X.A) (hb : Binds X.K fd ps ds) (hd : Vals dvs ds) (hx : Passes CX X E)
    (I : Inv X pins σ H s) (r : Vals vs us) (h : sp (vs ++ dvs) H Q E) : wpAny (model X.prog X.w) X.A (call (.ref f) us) (EP X pins σ Q) X.xe s := by
  have r2 : Vals (vs ++ dvs) (us ++ ds) := r.append hd
  have hl : (us ++ ds).length = ps.length := by rw [← r2.length]; exact F.len _ _ _ _ h
  refine wpAny_call (codeAny_mono (F.run X.A X.stack s H ⟨us, []⟩ (us ++ ds) (vs ++ dvs) Q E hr I.env0 (hb s us I.kIn hl) r2 h) fun r s' hq => ?_)
  cases r with
  | error e => exact hx pins σ H s e s' I hq
  | ok fl =>
    cases fl with
    | ret u => exact I.after hq
    | next => exact False.elim hq
    | brk => exact False.elim hq
    | cont => exact False.elim hq
theorem pe_call (F : FnOk X.prog X.w X.K X.mg X.base CX k f fd ps sp) (hr : Room k X.A) (hg : Gl X x) (hm : X.mg x = some (.ref f)) (hk : PySem.W.keepIn X.K (.ref f) = true) (hb : Binds X.K fd ps ds) (hd : Vals dvs ds) (hx : Passes CX X E)
    (ha : PA X (e :: es) t) (hdb : (x == ("__debug__" : Str)) = false := by decide) (he : starEach (e :: es) X.env = (false, eval e X.env) :: starEach es X.env := by rfl) (hpl : (backTo pos (starEach es X.env)).any (·.1) = false := by rfl) :
    PE X (.Call (.Name x p) (e :: es) [] pos) (tCall sp dvs E t) := by
  intro pins s σ H Q I h
  refine wpAny_Call_Name_kw (ld_glob I hg hm ?_ hdb)
  refine PySem.W.callWith_K (h₀ := X.base) I.ok.mod.kin hk (thn (ha pos pins s σ H _ I h) fun us s1 ⟨vs, H1, I1, r, q⟩ => ⟨I1.kIn, ?_⟩) he hpl
  exact run_fn F hr hb hd hx I1 r q
theorem pe_meth {pl : Sem Bool} (he : PE X o ta) (c : Cls X.K C) (hm : Meth X.K C m f) (F : FnOk X.prog X.w X.K X.mg X.base CX k f fd ps sp) (hr : Room k X.A) (hb : Binds X.K fd ps ds) (hd : Vals dvs ds) (hx : Passes CX X E) (ha : PA X (e :: es) t)
    (hst : starEach (e :: es) X.env = (false, eval e X.env) :: starEach es X.env := by rfl) (hpl : (backTo pos (starEach es X.env)).any (·.1) = false := by rfl)
    (ht : eval (.Call (.Attribute o m apos) (e :: es) [] pos) X.env = (do
      let ov ← eval o X.env
      standAt apos.atName
      let (f, first) ← holding [ov] (getMethod ov m pl)
      callWith pos f first (backTo pos (starEach (e :: es) X.env)) (backToKw pos (keywordEach [] X.env))) := by rfl) :
    PE X (.Call (.Attribute o m apos) (e :: es) [] pos) (tMeth C m sp dvs E ta t) := by
  intro pins s σ H Q I h
  refine PySem.W.methodCall_KW (pl := pl) (thn (he pins s σ H _ I h) fun u s1 ⟨x, H1, I1, rx, a, dx, fs, ex, ea, l, q⟩ => ?_) ht
  subst ex
  obtain rfl : u = Value.ref a := rx
  refine getmeth_ok I1 ea c hm l ?_
  refine PySem.W.callWith_K (first := [.ref a]) (h₀ := X.base) I.ok.mod.kin hm.kp (thn (ha pos pins s1 σ H1 _ I1 q) fun us s2 ⟨vs, H2, I2, r, q2⟩ => ⟨I2.kIn, ?_⟩) hst hpl
  exact run_fn (us := .ref a :: us) (vs := .ref a :: vs) F hr hb hd hx I2 (.cons rfl r) q2
structure Mk (K : PySem.W.Frag) (C f : Addr) : Prop where
  makes : PySem.W.makesIn K C = true
  init : PySem.W.findIn K (.ref C) "__init__" = some (some (.ref f))
  fn : PySem.W.isFn K (.ref f) = true
  kp : PySem.W.keepIn K (.ref C) = true
theorem run_make {pins : List (Addr × Obj)} {σ : St} {H : Hp} {s : Shared} {Q : VK} {us : List Value} {vs : List V} (M : Mk X.K C f) (F : FnOk X.prog X.w X.K X.mg X.base CX k f fd ps sp) (hr : Room (k + 1) X.A) (hb : Binds X.K fd ps ds) (hd : Vals dvs ds)
    (hx : Passes CX X E) (I : Inv X pins σ H s) (r : Vals vs us)
    (h : ∀ x dx, H x = none → H dx = none → dx ≠ x → sp (.ref x :: (vs ++ dvs)) (upd (upd H dx (.own x)) x (.ins C dx [])) (fun v H2 => v = .non ∧ Q (.ref x) H2) E) :
    wpAny (model X.prog X.w) X.A (call (.ref C) us) (EP X pins σ Q) X.xe s := by
  have hq := h (s.heap.objs.size + 1) s.heap.objs.size (I.hok.fresh (Nat.le_succ _)) (I.hok.fresh (Nat.le_refl _)) (Nat.ne_of_lt (Nat.lt_succ_self _))
  have I2 := Inv.made (C := C) I
  have r2 : Vals (V.ref (s.heap.objs.size + 1) :: (vs ++ dvs)) (Value.ref (s.heap.objs.size + 1) :: (us ++ ds)) := .cons rfl (r.append hd)
  have hl : (Value.ref (s.heap.objs.size + 1) :: us ++ ds).length = ps.length := by
    have e := r2.length
    rw [F.len _ _ _ _ hq] at e
    exact e.symm
  refine wpAny_call (make_map (f := f) I.kIn M.makes M.init (beq_iff_eq.mp M.fn) (codeAny_mono (F.run _ X.stack _ _ ⟨Value.ref (s.heap.objs.size + 1) :: us, []⟩ (Value.ref (s.heap.objs.size + 1) :: (us ++ ds)) _ _ E (hr.make C us [])
    (I2.env0.make C us []) (hb _ (Value.ref (s.heap.objs.size + 1) :: us) I2.kIn hl) r2 hq) fun r s' hq' => ?_))
  cases r with
  | error e => exact hx pins σ _ _ e s' I2 hq'
  | ok fl =>
    cases fl with
    | ret u =>
      obtain ⟨v, H', I3, rv, ev, q3⟩ := I2.after hq'
      subst ev
      exact ⟨rv, ⟨V.ref (s.heap.objs.size + 1), H', I3, rfl, q3⟩⟩
    | next => exact False.elim hq'
    | brk => exact False.elim hq'
    | cont => exact False.elim hq'
theorem pe_make (M : Mk X.K C f) (F : FnOk X.prog X.w X.K X.mg X.base CX k f fd ps sp) (hr : Room (k + 1) X.A) (hg : Gl X x) (hm : X.mg x = some (.ref C)) (hb : Binds X.K fd ps ds) (hd : Vals dvs ds) (hx : Passes CX X E)
    (ha : PA X (e :: es) t) (hdb : (x == ("__debug__" : Str)) = false := by decide) (he : starEach (e :: es) X.env = (false, eval e X.env) :: starEach es X.env := by rfl) (hpl : (backTo pos (starEach es X.env)).any (·.1) = false := by rfl) :
    PE X (.Call (.Name x p) (e :: es) [] pos) (tMake C sp dvs E t) := by
  intro pins s σ H Q I h
  refine wpAny_Call_Name_kw (ld_glob I hg hm ?_ hdb)
  refine PySem.W.callWith_K (h₀ := X.base) I.ok.mod.kin M.kp (thn (ha pos pins s σ H _ I h) fun us s1 ⟨vs, H1, I1, r, q⟩ => ⟨I1.kIn, ?_⟩) he hpl
  exact run_make M F hr hb hd hx I1 r q
end
section
variable {X : Cx} {CX : CXT} {k : Nat} {f C : Addr} {fd : FuncData} {ps ks : List Str} {sp : Sp} {E : XK} {x m : Str} {p pos apos kpos : Pos} {e o : Expr} {es : List Expr} {kws : List Keyword} {te ta : TE} {t tk : TA} {nm : Option Str}
structure KBinds (K : PySem.W.Frag) (fd : FuncData) (ps ks : List Str) (g : List Value → List Value → List Value) (gV : List V → List V → List V) : Prop where
  to : ∀ (s : Shared) (us ws : List Value), K.In s.heap → (g us ws).length = ps.length → BindsTo s fd ⟨us, ks.zip ws⟩ (ps.zip (g us ws))
  rel : ∀ {vs : List V} {us : List Value} {zs : List V} {ws : List Value}, Vals vs us → Vals zs ws → Vals (gV vs zs) (g us ws)
variable {g : List Value → List Value → List Value} {gV : List V → List V → List V}
end
structure FnScope (N P : List Str) (sc : Scope) : Prop where
  kind : sc.kind = .function
  co : sc.isCoroutine = false
  gen : sc.isGenerator = false
  nd : N.Nodup
  pre : N.take P.length = P
  par : ∀ x ∈ P, sc.names.lookup x = some .local ∨ sc.names.lookup x = some .cell
  nofree : ∀ y ∈ sc.names, y.2 ≠ .free
theorem bindL_out {kindOf : Str → Option NameKind} {x : Str} : ∀ {binds : List (Str × Value)} {m : Str → Option Value}, (∀ v, (x, v) ∉ binds) → bindL kindOf binds m x = m x
  | [], _, _ => rfl
  | (n, v) :: r, m, h => by
    unfold bindL
    rw [bindL_out fun w hw => h w (List.mem_cons_of_mem _ hw)]
    split
    · have : x ≠ n := by rintro rfl; exact h v List.mem_cons_self
      simp [this]
    · rfl
theorem bindC_out {kindOf : Str → Option NameKind} {x : Str} : ∀ {binds : List (Str × Value)} {m : Str → Option Value}, (∀ v, (x, v) ∉ binds) → bindC kindOf binds m x = m x
  | [], _, _ => rfl
  | (n, v) :: r, m, h => by
    unfold bindC
    rw [bindC_out fun w hw => h w (List.mem_cons_of_mem _ hw)]
    split
    · rfl
    · have : x ≠ n := by rintro rfl; exact h v List.mem_cons_self
      simp [this]
theorem bindL_get {kindOf : Str → Option NameKind} {x : Str} {v : Value} : ∀ {P : List Str} {vs : List Value} {i : Nat} {m : Str → Option Value}, P.Nodup → P[i]? = some x → vs[i]? = some v → kindOf x = some .local →
    bindL kindOf (P.zip vs) m x = some v
  | [], _, _, _, _, h, _, _ => by simp at h
  | _ :: _, [], _, _, _, _, h, _ => by simp at h
  | p :: P, w :: vs, 0, m, nd, h1, h2, hk => by
    simp at h1 h2; subst h1; subst h2
    show bindL kindOf ((p, w) :: P.zip vs) m p = _
    unfold bindL
    rw [bindL_out fun v hv => (List.nodup_cons.mp nd).1 (List.of_mem_zip hv).1, if_pos hk]
    simp
  | p :: P, w :: vs, i + 1, m, nd, h1, h2, hk => by
    show bindL kindOf ((p, w) :: P.zip vs) m x = _
    unfold bindL
    exact bindL_get (i := i) (List.nodup_cons.mp nd).2 (by simpa using h1) (by simpa using h2) hk
theorem bindC_get {kindOf : Str → Option NameKind} {x : Str} {v : Value} : ∀ {P : List Str} {vs : List Value} {i : Nat} {m : Str → Option Value}, P.Nodup → P[i]? = some x → vs[i]? = some v → kindOf x ≠ some .local →
    bindC kindOf (P.zip vs) m x = some v
  | [], _, _, _, _, h, _, _ => by simp at h
  | _ :: _, [], _, _, _, _, h, _ => by simp at h
  | p :: P, w :: vs, 0, m, nd, h1, h2, hk => by
    simp at h1 h2; subst h1; subst h2
    show bindC kindOf ((p, w) :: P.zip vs) m p = _
    unfold bindC
    rw [bindC_out fun v hv => (List.nodup_cons.mp nd).1 (List.of_mem_zip hv).1, if_neg hk]
    simp
  | p :: P, w :: vs, i + 1, m, nd, h1, h2, hk => by
    show bindC kindOf ((p, w) :: P.zip vs) m x = _
    unfold bindC
    exact bindC_get (i := i) (List.nodup_cons.mp nd).2 (by simpa using h1) (by simpa using h2) hk
def start (N : List Str) (vs : List V) : St := vs.map some ++ List.replicate (N.length - vs.length) none
def cxOf (CX : CXT) (P : Program) (w : World) (K : PySem.W.Frag) (mg : Str → Option Value) (base : Heap) (N : List Str) (qual : Str) (scope : Scope) (f : Addr) (cd : Value) (A : Around) (outer : List Env) (s : Shared) (H : Hp) (E : XK) : Cx where
  prog := P
  w := w
  K := K
  mg := mg
  base := base
  A := A.deeper (envOfC qual scope s.heap.objs.size f cd)
  N := N
  s₀ := s
  H₀ := H
  env := envOfC qual scope s.heap.objs.size f cd
  outer := outer
  stack := envOfC qual scope s.heap.objs.size f cd :: outer
  ex := []
  calm := true
  fn := fun _ => true
  pn := []
  xe := fun e s' => wpAny (model P w) (A.deeper (envOfC qual scope s.heap.objs.size f cd)) (leaving (envOfC qual scope s.heap.objs.size f cd) e) (fun _ s'' => CX outer H s E e s'') (fun e' s'' => CX outer H s E e' s'') s'
theorem cell_has {sc : Scope} {n : Nat} {x : Str} (h : sc.names.lookup x = some .cell) : ∃ c, (cellsFrom n sc.names []).lookup x = some c := by
  have q := PySem.W.cellsFrom_some sc.names n [] (.inl h)
  exact Option.isSome_iff_exists.mp q
theorem inv_start {CX : CXT} {P : Program} {w : World} {K : PySem.W.Frag} {mg : Str → Option Value} {base : Heap} {N ps : List Str} {qual : Str} {scope : Scope} {f : Addr} {cd : Value} {A : Around} {outer : List Env} {s s1 : Shared} {H : Hp} {E : XK} {us : List Value} {vs : List V}
    (S : FnScope N ps scope) (hd : A.handled = none) (e0 : Env0 P w K mg base A outer s H) (hl : vs.length = ps.length) (r : Vals vs us)
    (x : InCallC s s.heap.objs.size (bindL (envOfC qual scope s.heap.objs.size f cd).kindOf (ps.zip us) fun _ => none) (cellsFrom (s.heap.objs.size + 1) scope.names []) (bindC (envOfC qual scope s.heap.objs.size f cd).kindOf (ps.zip us) fun _ => none) s1) :
    Inv (cxOf CX P w K mg base N qual scope f cd A outer s H E) [] (start N vs) H s1 := by
  have hpl : ps.length ≤ N.length := by have := congrArg List.length S.pre; rw [List.length_take] at this; omega
  obtain ⟨h1, tk, rfl, hk⟩ := x.done
  have noA : ∀ b : Addr, b ∉ (cxOf CX P w K mg base N qual scope f cd A outer s H E).ex := fun b z => absurd (show b ∈ ([] : List Addr) from z) (by simp)
  refine ⟨⟨e0.mod, S.kind, rfl, rfl, Nat.le_refl _, fun y z c h1 h2 => ?_, fun y hy => ?_, fun y c _ h => ?_, fun _ => hd, Around.frames_deeper e0.frames, .inr ⟨rfl, rfl⟩, fun b z => absurd z (noA b), e0.bs, e0.bsz, fun b _ _ => noA b, fun b z => absurd z (noA b), e0.funs, e0.frf⟩,
    rfl, e0.bare, Un.kept hk, ⟨_, x.toInCall.ns, fun i y v h1 h2 h3 => ?_⟩, fun y c h => ⟨_, x.cell y c h⟩, e0.hok.fresh (Nat.le_refl _), fun y c h => ?_, fun p hp => absurd (show p ∈ ([] : List (Addr × Obj)) from hp) (by simp), e0.hok.kept hk, ?_⟩
  · exact name_of_addr x.apart (PySem.mem_of_lookup h1) (PySem.mem_of_lookup h2)
  · have hy : scope.names.lookup y = some .cell ∨ scope.names.lookup y = some .free := hy
    rcases hy with hy | hy
    · exact cell_has hy
    · exact absurd rfl (S.nofree _ (PySem.mem_of_lookup hy))
  · exact Nat.le_of_lt (x.above y c (PySem.mem_of_lookup h))
  · have hi : i < vs.length := by
      unfold start at h2
      by_cases hi : i < vs.length
      · exact hi
      · rw [List.getElem?_append_right (by simpa using hi)] at h2
        rw [List.getElem?_replicate] at h2
        split at h2 <;> cases h2
    have ha : vs[i]? = some v := by
      unfold start at h2
      rw [List.getElem?_append_left (by simpa using hi), List.getElem?_map] at h2
      cases e : vs[i]? with
      | none => rw [e] at h2; cases h2
      | some a => rw [e] at h2; cases h2; rfl
    obtain ⟨u, hu, rv⟩ := r.get ha
    have hp : ps[i]? = some y := by
      rw [← S.pre, List.getElem?_take_of_lt (by omega)]; exact h1
    have ndP : ps.Nodup := by rw [← S.pre]; exact S.nd.sublist (List.take_sublist _ _)
    refine ⟨u, rv, ?_⟩
    rcases S.par y (List.mem_of_getElem? hp) with k | k
    · exact .inl ⟨k, bindL_get ndP hp hu k⟩
    · obtain ⟨c, e⟩ := cell_has (n := s.heap.objs.size + 1) k
      refine .inr ⟨.inl k, c, e, ?_⟩
      have q := x.cell y c e
      rw [bindC_get ndP hp hu (by show scope.names.lookup y ≠ _; rw [k]; decide)] at q
      exact q
  · exact e0.hok.fresh (Nat.le_of_lt (x.above y c (PySem.mem_of_lookup h)))
  · unfold start
    show _ = N.length
    rw [List.length_append, List.length_map, List.length_replicate]
    omega
theorem fn_of {CX : CXT} {P : Program} {w : World} {K : PySem.W.Frag} {mg : Str → Option Value} {base : Heap} {k : Nat} {f : Addr} {name qual : Str} {params : Arguments} {body : List Stmt} {scope : Scope} {dV kV doc pm cdv ct oc : Value} {an od : Option Addr}
    {osl : Array (Option Value)} {N ps : List Str} {sp : Sp} (lk : K.lookup f = some ⟨oc, od, .func (PySem.W.fnOf name qual params body scope dV kV doc pm an cdv ct), osl⟩) (hcd : PySem.W.codeIn K cdv qual = true) (S : FnScope N ps scope)
    (len : ∀ vs H Q E, sp vs H Q E → vs.length = ps.length)
    (hbody : ∀ (A : Around) (outer : List Env) (s : Shared) (H : Hp) (vs : List V) (Q : VK) (E : XK), Room k (A.deeper (envOfC qual scope s.heap.objs.size f cdv)) → sp vs H Q E →
      ∃ t, PSs (cxOf CX P w K mg base N qual scope f cdv A outer s H E) body t ∧ t { nx := fun _ H' => Q .non H', rt := Q } (start N vs) H) :
    FnOk P w K mg base CX (k + 1) f (PySem.W.fnOf name qual params body scope dV kV doc pm an cdv ct) ps sp := by
  refine ⟨len, fun A outer s H args us vs Q E hr e0 hb r hsp => ?_⟩
  have hl := len _ _ _ _ hsp
  have KX : K.In s.heap := e0.mod.kin.keeps fun b o e => (e0.bs b o e).1
  have lim : s.heap.NoLimit := e0.mod.nolimit.keeps fun b o e => (e0.bs b o e).1
  have hkind : ∀ y ∈ ps.zip us, scope.names.lookup y.1 = some .local ∨ (scope.names.lookup y.1 = some .cell ∧ ((cellsFrom (s.heap.objs.size + 1) scope.names []).lookup y.1).isSome = true) := fun ⟨n, v⟩ hy => by
    rcases S.par n (List.of_mem_zip hy).1 with q | q
    · exact .inl q
    · exact .inr ⟨q, PySem.W.cellsFrom_some _ _ _ (.inl q)⟩
  refine codeAny_call_function hr.depth (KX _ _ lk) rfl S.co S.gen rfl (PySem.W.codeRec_of KX hcd) (hb _ _ _ _ ?_)
  refine wpAny_newFunctionEnv_cells S.kind hkind fun env he s1 x => ?_
  subst he
  refine ⟨lim.keeps x.toInCall.keep, codeAny_func ?_⟩
  obtain ⟨t, ht, hq⟩ := hbody A outer s H vs Q E (hr.deeper _) hsp
  have I : Inv (cxOf CX P w K mg base N qual scope f cdv A outer s H E) [] (start N vs) H s1 := inv_start S hr.hd e0 hl r x
  refine wpAny_mono (ht [] s1 (start N vs) H _ I hq) (fun fl s' hs => ?_) fun e s' hs => hs
  have fin : ∀ {σ' : St} {H' : Hp} {v : V} {u : Value}, Inv (cxOf CX P w K mg base N qual scope f cdv A outer s H E) [] σ' H' s' → RelV v u → Q v H' → CE outer P w H s Q u s' :=
    fun {σ' H' v u} J rv q => ⟨v, H', J.os, J.bare, J.base, J.hok, rv, q⟩
  cases fl with
  | ret u =>
    obtain ⟨v, σ', H', J, rv, q⟩ := hs
    exact fin J rv q
  | next =>
    obtain ⟨σ', H', J, q⟩ := hs
    exact fin (v := V.non) (u := Value.none) J rfl q
  | brk =>
    obtain ⟨_, _, _, q⟩ := hs
    exact False.elim q
  | cont =>
    obtain ⟨_, _, _, q⟩ := hs
    exact False.elim q
end L2
namespace L2
open PySem PySem.Spec PyProof.Rows
section
variable {X : Cx} {x : Str} {p pos : Pos} {e : Expr} {es : List Expr} {t : TA} {id T : String} {r : List V → Hp → VK → Prop}
def tCB (r : List V → Hp → VK → Prop) (t : TA) : TE := fun σ H Q => t σ H fun vs H1 => r vs H1 Q
theorem pe_callB (hc : CallR X (.builtin id) r) (hg : Gl X x) (hm : X.mg x = none) (hv : bootBuiltins x = some (.builtin id)) (ha : PA X (e :: es) t) (hn : x ≠ "__name__" := by decide) (hdb : (x == ("__debug__" : Str)) = false := by decide)
    (he : starEach (e :: es) X.env = (false, eval e X.env) :: starEach es X.env := by rfl) (hpl : (backTo pos (starEach es X.env)).any (·.1) = false := by rfl) : PE X (.Call (.Name x p) (e :: es) [] pos) (tCB r t) := by
  intro pins s σ H Q I h
  refine wpAny_Call_Name_kw (ld_blt I hg hm hv ?_ hn hdb)
  exact PyProof.Rows.callWith_builtin1 (thn (ha pos pins s σ H _ I h) fun us s1 ⟨vs, H1, I1, r1, q1⟩ => hc pins s1 σ H1 vs us Q I1 r1 q1) he hpl
theorem pe_callTy (hc : CallR X (.type T) r) (hg : Gl X x) (hm : X.mg x = none) (hv : bootBuiltins x = some (.type T)) (ha : PA X (e :: es) t) (hn : x ≠ "__name__" := by decide) (hdb : (x == ("__debug__" : Str)) = false := by decide)
    (he : starEach (e :: es) X.env = (false, eval e X.env) :: starEach es X.env := by rfl) (hpl : (backTo pos (starEach es X.env)).any (·.1) = false := by rfl) : PE X (.Call (.Name x p) (e :: es) [] pos) (tCB r t) := by
  intro pins s σ H Q I h
  refine wpAny_Call_Name_kw (ld_blt I hg hm hv ?_ hn hdb)
  exact PyProof.Rows.callWith_type1 (thn (ha pos pins s σ H _ I h) fun us s1 ⟨vs, H1, I1, r1, q1⟩ => hc pins s1 σ H1 vs us Q I1 r1 q1) he hpl
end
end L2
namespace HT
open PySem PyProof.Rows
section
open PySem.SeqAt
open PySem.AutoSeq1 (wpAny_loadPart')
open PySem.MeetsSeq PySem.MeetsSeq2 PySem.MeetsSeq3
end
section
variable {prog : Program} {w : World} {A : Around} {E : Value → Shared → Prop} {s : Shared}
def sIx (n d : Nat) : Option Int → Nat
  | none => d
  | some v => if v < 0 then (v + (n : Int)).toNat else min v.toNat n
theorem sIx_none (n d : Nat) : sIx n d none = d := rfl
theorem sIx_nat (n d k : Nat) : sIx n d (some (k : Int)) = min k n := by
  show (if (k : Int) < 0 then ((k : Int) + (n : Int)).toNat else min (k : Int).toNat n) = min k n
  rw [if_neg (by omega), Int.toNat_natCast]
end
end HT
namespace L2
open PySem PySem.Spec PyProof.Rows
abbrev TO := St → Hp → (Option Int → Hp → Prop) → Prop
def PO (X : Cx) (e : Option Expr) (t : TO) : Prop :=
  ∀ (pins : List (Addr × Obj)) (s : Shared) (σ : St) (H : Hp) (Q : Option Int → Hp → Prop), Inv X pins σ H s → t σ H Q →
    wpAny (model X.prog X.w) X.A (evalPart e X.env) (fun u s' => ∃ o H', Inv X pins σ H' s' ∧ IsPart u o ∧ Q o H') X.xe s
def tNoPart : TO := fun _ H Q => Q none H
def tPart (t : TE) : TO := fun σ H Q => t σ H fun x H1 => ∃ i, x = .int i ∧ Q (some i) H1
theorem intsAre_of {ns : List Int} : ∀ {us : List Value}, Vals (ns.map V.int) us → IntsAre us ns := by
  induction ns with
  | nil => intro us r; rw [List.map_nil] at r; cases r; exact .nil
  | cons n ns ih =>
    intro us r
    rw [List.map_cons] at r
    cases r with
    | cons r1 r2 =>
      obtain ⟨t, e⟩ := r1
      subst e
      exact .cons n t (ih r2)
section
variable {X : Cx} {e : Expr} {te : TE} {lo hi : Option Expr} {tl th : TO} {pos p2 : Pos}
theorem po_none : PO X none tNoPart := by
  intro pins s σ H Q I h
  rw [evalPart_none]
  exact wpAny_pure ⟨none, H, I, .none, h⟩
theorem po_some (h : PE X e te) : PO X (some e) (tPart te) := by
  intro pins s σ H Q I hw
  rw [evalPart_some]
  refine thn (h pins s σ H _ I hw) fun u s1 ⟨x, H1, I1, r1, q1⟩ => ?_
  obtain ⟨i, rfl, q⟩ := q1
  obtain ⟨t, rfl⟩ := r1
  exact ⟨some i, H1, I1, .int i t, q⟩
def SlR (X : Cx) (r : V → Option Int → Option Int → Hp → VK → Prop) : Prop :=
  ∀ (pins : List (Addr × Obj)) (s : Shared) (σ : St) (H : Hp) (x : V) (v vl vu : Value) (lo hi : Option Int) (sl : Addr) (Q : VK), Inv X pins σ H s → RelV x v → s.heap.IsSliceOf sl vl vu .none → IsPart vl lo → IsPart vu hi → r x lo hi H Q →
    ∃ T id, typeLookup (.type T) "__getitem__" = pure (some (.builtin id)) ∧ s.TypeIs v T ∧ wpAny (model X.prog X.w) X.A (getItem v (.ref sl)) (EP X pins σ Q) X.xe s
def tSl (r : V → Option Int → Option Int → Hp → VK → Prop) (te : TE) (tl th : TO) : TE := fun σ H Q => te σ H fun x H1 => tl σ H1 fun l H2 => th σ H2 fun u H3 => r x l u H3 Q
theorem pe_slice {r : V → Option Int → Option Int → Hp → VK → Prop} (hr : SlR X r) (he : PE X e te) (hl : PO X lo tl) (hu : PO X hi th) : PE X (.Subscript e (.Slice lo hi none p2) pos) (tSl r te tl th) := by
  intro pins s σ H Q I h
  refine Subscript_ (thn (he pins s σ H _ I h) fun v s1 ⟨x, H1, I1, r1, q1⟩ => ?_)
  refine wpAny_Slice (thn (hl pins s1 σ H1 _ I1 q1) fun vl s2 ⟨l, H2, I2, pl, q2⟩ => thn (hu pins s2 σ H2 _ I2 q2) fun vu s3 ⟨u, H3, I3, pu, q3⟩ => ?_)
  rw [evalPart_none]
  refine wpAny_pure ?_
  have I4 : Inv X pins σ H3 { s3 with heap := s3.heap.push { cls := .type "slice", data := .fields #[vl, vu, .none] } } := I3.kept (t' := s3.toks) fun b ob q => Heap.get?_push_of_some _ q
  obtain ⟨T, id, hT, ht, hg⟩ := hr pins { s3 with heap := s3.heap.push { cls := .type "slice", data := .fields #[vl, vu, .none] } } σ H3 x v vl vu l u s3.heap.objs.size Q I4 r1 (Heap.IsSliceOf.new ..) pl pu q3
  show wpAny (model X.prog X.w) X.A (subscriptTail e (.Slice lo hi none p2) v (.ref s3.heap.objs.size)) (EP X pins σ Q) X.xe { s3 with heap := s3.heap.push { cls := .type "slice", data := .fields #[vl, vu, .none] } }
  exact tail_any (ops := [.ref s3.heap.objs.size, v]) ht hT hg (by with_unfolding_all rfl)
def cutV (xs : List V) (lo hi : Option Int) : List V := (xs.drop (HT.sIx xs.length 0 lo)).take (HT.sIx xs.length xs.length hi - HT.sIx xs.length 0 lo)
theorem cutV_length (xs : List V) (lo hi : Option Int) : (cutV xs lo hi).length ≤ xs.length := by
  unfold cutV
  rw [List.length_take, List.length_drop]
  omega
end
end L2
namespace L2
open PySem PySem.Spec PyProof.Rows
def ixN (n : Nat) (i : Int) : Option Nat := if 0 ≤ i then (if i < n then some i.toNat else none) else if -(n : Int) ≤ i then some (i + n).toNat else none
def atI {α : Type} (xs : List α) (i : Int) : Option α := (ixN xs.length i).bind fun j => xs[j]?
theorem ixN_seq {n : Nat} {i : Int} {j : Nat} (h : ixN n i = some j) : seqIndex? i n = some j ∧ j < n ∧ -(n : Int) ≤ i ∧ i < n := by
  unfold ixN at h
  by_cases h0 : 0 ≤ i
  · rw [if_pos h0] at h
    by_cases h1 : i < n
    · rw [if_pos h1] at h
      have e : i.toNat = j := Option.some.inj h
      exact ⟨by rw [seqIndex_of h0 h1, e], by omega, by omega, h1⟩
    · rw [if_neg h1] at h; cases h
  · rw [if_neg h0] at h
    by_cases h1 : -(n : Int) ≤ i
    · rw [if_pos h1] at h
      have e : (i + n).toNat = j := Option.some.inj h
      exact ⟨by rw [seqIndex_neg (by omega) h1, e], by omega, h1, by omega⟩
    · rw [if_neg h1] at h; cases h
theorem atI_get {α : Type} {xs : List α} {i : Int} {v : α} (h : atI xs i = some v) : ∃ j, seqIndex? i xs.length = some j ∧ xs[j]? = some v ∧ j < xs.length ∧ -(xs.length : Int) ≤ i ∧ i < xs.length := by
  unfold atI at h
  cases e : ixN xs.length i with
  | none => rw [e] at h; cases h
  | some j =>
    rw [e] at h
    obtain ⟨h1, h2, h3, h4⟩ := ixN_seq e
    exact ⟨j, h1, h, h2, h3, h4⟩
theorem atI_nat {α : Type} {xs : List α} {j : Nat} {v : α} (h : xs[j]? = some v) : atI xs (j : Int) = some v := by
  have hj : j < xs.length := (List.getElem?_eq_some_iff.mp h).1
  have e : ixN xs.length (j : Int) = some j := by
    unfold ixN
    rw [if_pos (by omega), if_pos (by omega)]; simp
  unfold atI; rw [e]; exact h
def PlainIx (b : Expr) : Prop := ∀ o i, subscripted b false o i = operate [o, i] (getItem o i)
def IxR (X : Cx) (r : R2) : Prop :=
  ∀ (value slice : Expr) (pins : List (Addr × Obj)) (s : Shared) (σ : St) (H : Hp) (x y : V) (v u : Value) (Q : VK), Inv X pins σ H s → RelV x v → RelV y u → r x y H Q →
    subscripted slice false v u = operate [v, u] (getItem v u) → wpAny (model X.prog X.w) X.A (subscriptTail value slice v u) (EP X pins σ Q) X.xe s
def MtR (X : Cx) (id : String) (r : V → List V → Hp → VK → Prop) : Prop :=
  ∀ (pins : List (Addr × Obj)) (s : Shared) (σ : St) (H : Hp) (x : V) (xs : List V) (v : Value) (us : List Value) (Q : VK), Inv X pins σ H s → RelV x v → Vals xs us → r x xs H Q →
    wpAny (model X.prog X.w) X.A (call (.builtin id) (v :: us)) (EP X pins σ Q) X.xe s
section
variable {X : Cx} {a b : Expr} {ta tb : TE} {pos : Pos}
theorem pe_ix {r : R2} (hr : IxR X r) (ha : PE X a ta) (hb : PE X b tb) (hs : PlainIx b) : PE X (.Subscript a b pos) (tOp r ta tb) := by
  intro pins s σ H Q I h
  exact Subscript_ (binT ha hb I h fun v u s2 x y H2 I2 rx ry q => hr a b pins s2 σ H2 x y v u Q I2 rx ry q (hs _ _))
def rIxL (K : PySem.W.Frag) : R2 := fun x y H Q => ∃ p xs i v, x = .ref p ∧ y = .int i ∧ SqL K H p xs ∧ atI xs i = some v ∧ Q v H
def rIxT (K : PySem.W.Frag) : R2 := fun x y H Q => ∃ p xs i v, x = .ref p ∧ y = .int i ∧ SqT K H p xs ∧ atI xs i = some v ∧ Q v H
def rIxS : R2 := fun x y H Q => ∃ z i c, x = .str z ∧ y = .int i ∧ z.length ≤ sizeLine ∧ atI z.cps.toList i = some c ∧ Q (.str ⟨#[c]⟩) H
theorem ix_list : IxR X (rIxL X.K) := by
  intro value slice pins s σ H x y v u Q I rx ry h hs
  obtain ⟨p, xs, i, z, rfl, rfl, hq, he, q⟩ := h
  cases rx
  obtain ⟨t, rfl⟩ := ry
  obtain ⟨its, r, pl, hz⟩ := I.list hq
  obtain ⟨j, h1, h2, h3, h4, h5⟩ := atI_get he
  obtain ⟨w, ew, rw'⟩ := r.get h2
  have hl := r.length
  have hn := line63
  have fin : EP X pins σ Q w s := ⟨z, H, I, rw', q⟩
  by_cases h0 : 0 ≤ i
  · have hj : i.toNat = j := by
      rw [seqIndex_of h0 h5] at h1
      exact Option.some.inj h1
    exact item_listR pl.isList h0 (by omega) (by rw [hj]; simpa using ew) fin hs
  · have hj : (i + (its.toArray.size : Int)).toNat = j := by
      rw [seqIndex_neg (by omega) h4] at h1
      rw [List.size_toArray, ← hl]
      exact Option.some.inj h1
    exact subscriptTail_builtinR (x := w) pl.isList.typeIs slot_list_getitem.lookup
      (wpAny_getItem_list_neg (Q := fun r s' => r = w ∧ EP X pins σ Q r s') pl.isList (by omega) (by rw [List.size_toArray] <;> omega) (by omega) (by rw [hj]; simpa using ew) ⟨rfl, fin⟩) hs
theorem ix_tup : IxR X (rIxT X.K) := by
  intro value slice pins s σ H x y v u Q I rx ry h hs
  obtain ⟨p, xs, i, z, rfl, rfl, hq, he, q⟩ := h
  cases rx
  obtain ⟨t, rfl⟩ := ry
  obtain ⟨its, r, pl, hz⟩ := I.tuple hq
  obtain ⟨j, h1, h2, h3, h4, h5⟩ := atI_get he
  obtain ⟨w, ew, rw'⟩ := r.get h2
  have hl := r.length
  have hn := line63
  have fin : EP X pins σ Q w s := ⟨z, H, I, rw', q⟩
  exact subscriptTail_builtinR (x := w) pl.typeIs slot_tuple_getitem.lookup
    (getItem_tuple (j := j) (Q := fun r s' => r = w ∧ EP X pins σ Q r s') pl (by omega) (by omega) (by rw [List.size_toArray, ← hl]; exact h1) (by simpa using ew) ⟨rfl, fin⟩) hs
theorem ix_str : IxR X rIxS := by
  intro value slice pins s σ H x y v u Q I rx ry h hs
  obtain ⟨z, i, c, rfl, rfl, hz, he, q⟩ := h
  obtain ⟨t, rfl⟩ := rx
  obtain ⟨t', rfl⟩ := ry
  obtain ⟨j, h1, h2, h3, h4, h5⟩ := atI_get he
  have hl : z.cps.toList.length = z.length := by simp [Str.length]
  rw [hl] at h1 h4 h5
  have hn := line63
  exact tail_any (typeIs_str s z t) slot_str_getitem.lookup (getItem_str (c := c) (by
    have e1 : decide (i < -(2 ^ 63 : Int)) = false := decide_eq_false (by omega)
    have e2 : decide (i ≥ 2 ^ 63) = false := decide_eq_false (by omega)
    rw [e1, e2, Bool.or_false]) (by rw [h1]; simpa using h2) ⟨.str ⟨#[c]⟩, H, I.tok _, ⟨_, rfl⟩, q⟩) hs
theorem slice_bounds (lo hi : Option Int) (n : Nat) : (sliceBounds lo hi none n).1 = ((HT.sIx n 0 lo : Nat) : Int) ∧ (sliceBounds lo hi none n).2.1 = ((HT.sIx n n hi : Nat) : Int) ∧ (sliceBounds lo hi none n).2.2 = 1 := by
  refine ⟨?_, ?_, rfl⟩
  · cases lo with
    | none => simp [sliceBounds, HT.sIx]
    | some i =>
      simp only [sliceBounds, HT.sIx, Option.getD_none, show (1 : Int) > 0 by decide, if_true]
      by_cases h : i < 0
      · simp only [h, if_true] <;> omega
      · simp only [h, if_false] <;> omega
  · cases hi with
    | none => simp [sliceBounds, HT.sIx]
    | some i =>
      simp only [sliceBounds, HT.sIx, Option.getD_none, show (1 : Int) > 0 by decide, if_true]
      by_cases h : i < 0
      · simp only [h, if_true] <;> omega
      · simp only [h, if_false] <;> omega
theorem slicePick_cut (its : List Value) (lo hi : Option Int) : slicePick its.toArray lo hi none = ((its.drop (HT.sIx its.length 0 lo)).take (HT.sIx its.length its.length hi - HT.sIx its.length 0 lo)).toArray := by
  obtain ⟨h1, h2, h3⟩ := slice_bounds lo hi its.toArray.size
  unfold slicePick
  rw [h1, h2, h3]
  simp only [sliceRange_one, pick_run, List.size_toArray] <;> rfl
def rSlL (K : PySem.W.Frag) : V → Option Int → Option Int → Hp → VK → Prop := fun x lo hi H Q => ∃ a xs, x = .ref a ∧ SqL K H a xs ∧ ∀ p, H p = none → Q (.ref p) (upd H p (.lst (cutV xs lo hi)))
theorem sl_list : SlR X (rSlL X.K) := by
  intro pins s σ H x v vl vu lo hi sl Q I rx hs pl pu h
  obtain ⟨a, xs, rfl, hx, q⟩ := h
  cases rx
  obtain ⟨its, r, ht, hz⟩ := I.list hx
  have hlen := r.length
  refine ⟨"list", _, slot_list_getitem.lookup, ht.isList.typeIs, ?_⟩
  refine wpAny_getItem_list_slice ht.isList hs pl pu .none (by simp) ?_ (by rw [List.size_toArray] <;> omega)
  rw [slicePick_cut, ← hlen]
  refine ⟨.ref s.heap.objs.size, _, I.laid (t' := s.toks) (o := .lst (cutV xs lo hi)) (fun b ob q => Heap.get?_push_of_some _ q) (Nat.le_refl _) ?_, rfl, q _ (I.hok.fresh (Nat.le_refl _))⟩
  exact ⟨Nat.le_trans (cutV_length xs lo hi) hz, _, 0, (r.drop (HT.sIx xs.length 0 lo)).take (HT.sIx xs.length xs.length hi - HT.sIx xs.length 0 lo), Heap.get?_push_size _ rfl⟩
def flatV : V → Bool
  | .non => true
  | .bl _ => true
  | .int _ => true
  | .str _ => true
  | _ => false
def eqV : V → V → Bool
  | .non, .non => true
  | .bl a, .bl b => a == b
  | .bl a, .int b => (if a then 1 else 0) == b
  | .int a, .bl b => a == (if b then 1 else 0)
  | .int a, .int b => a == b
  | .str a, .str b => a == b
  | _, _ => false
theorem eqAt_V {A : Around} {s : Shared} {y x : V} {u v : Value} (ry : RelV y u) (rx : RelV x v) (fy : flatV y = true) (fx : flatV x = true) : SeqAt.EqAt A s u v (eqV y x) := by
  cases y with
  | non =>
    cases ry
    cases x with
    | non => cases rx; exact SeqAt.EqAt.same _
    | bl b => cases rx; exact SeqAt.EqAt.none_bool b
    | int b => obtain ⟨t, rfl⟩ := rx; exact SeqAt.EqAt.none_int b t
    | str b => obtain ⟨t, rfl⟩ := rx; exact SeqAt.EqAt.none_str b t
    | _ => exact absurd (show false = true from fx) Bool.false_ne_true
  | bl a =>
    cases ry
    cases x with
    | non => cases rx; exact SeqAt.EqAt.bool_none a
    | bl b => cases rx; exact SeqAt.EqAt.bool_bool a b
    | int b => obtain ⟨t, rfl⟩ := rx; exact SeqAt.EqAt.bool_int a b t
    | str b => obtain ⟨t, rfl⟩ := rx; exact SeqAt.EqAt.bool_str a b t
    | _ => exact absurd (show false = true from fx) Bool.false_ne_true
  | int a =>
    obtain ⟨t', rfl⟩ := ry
    cases x with
    | non => cases rx; exact SeqAt.EqAt.int_none a t'
    | bl b => cases rx; exact SeqAt.EqAt.int_bool a t' b
    | int b => obtain ⟨t, rfl⟩ := rx; exact SeqAt.EqAt.int_int a t' b t
    | str b => obtain ⟨t, rfl⟩ := rx; exact SeqAt.EqAt.int_str a t' b t
    | _ => exact absurd (show false = true from fx) Bool.false_ne_true
  | str a =>
    obtain ⟨t', rfl⟩ := ry
    cases x with
    | non => cases rx; exact SeqAt.EqAt.str_none a t'
    | bl b => cases rx; exact SeqAt.EqAt.str_bool a t' b
    | int b => obtain ⟨t, rfl⟩ := rx; exact SeqAt.EqAt.str_int a t' b t
    | str b => obtain ⟨t, rfl⟩ := rx; exact SeqAt.EqAt.str_str a t' b t
    | _ => exact absurd (show false = true from fx) Bool.false_ne_true
  | _ => exact absurd (show false = true from fy) Bool.false_ne_true
def eqU (x : V) (u : Value) : Bool := match u with
  | .none => eqV .non x
  | .bool b => eqV (.bl b) x
  | .int i _ => eqV (.int i) x
  | .str z _ => eqV (.str z) x
  | _ => false
theorem eqU_of {x y : V} {u : Value} (r : RelV y u) (f : flatV y = true) : eqU x u = eqV y x := by
  cases y with
  | non => cases r; rfl
  | bl b => cases r; rfl
  | int i => obtain ⟨t, rfl⟩ := r; rfl
  | str z => obtain ⟨t, rfl⟩ := r; rfl
  | _ => exact absurd (show false = true from f) Bool.false_ne_true
theorem any_eqU {x : V} : ∀ {xs : List V} {us : List Value}, Vals xs us → xs.all flatV = true → us.any (eqU x) = xs.any fun y => eqV y x
  | _, _, .nil, _ => rfl
  | y :: xs, u :: us, .cons r t, f => by
    rw [List.all_cons, Bool.and_eq_true] at f
    rw [List.any_cons, List.any_cons, eqU_of r f.1, any_eqU t f.2]
theorem mem_eqAt {A : Around} {s : Shared} {x : V} {v : Value} (rx : RelV x v) (fx : flatV x = true) : ∀ {xs : List V} {us : List Value}, Vals xs us → xs.all flatV = true → ∀ u ∈ us, SeqAt.EqAt A s u v (eqU x u)
  | _, _, .nil, _ => fun u hu => by cases hu
  | y :: xs, u :: us, .cons r t, f => fun u' hu => by
    rw [List.all_cons, Bool.and_eq_true] at f
    rcases List.mem_cons.mp hu with rfl | hu
    · rw [eqU_of r f.1]; exact eqAt_V r rx f.1 fx
    · exact mem_eqAt rx fx t f.2 u' hu
def inV (x : V) (xs : List V) : Bool := xs.any fun y => eqV y x
def rIn (K : PySem.W.Frag) (neg : Bool) : R2 := fun x y H Q => ∃ p xs, y = .ref p ∧ (SqL K H p xs ∨ SqT K H p xs) ∧ flatV x = true ∧ xs.all flatV = true ∧ Q (.bl (if neg then !inV x xs else inV x xs)) H
theorem op_in_seq : OpR X (compareOp .In) (rIn X.K false) := by
  intro pins s σ H x y v u Q I rx ry h
  obtain ⟨p, xs, rfl, hq, fx, fs, q⟩ := h
  cases ry
  rcases hq with hq | hq
  · obtain ⟨its, r, pl, hz⟩ := I.list hq
    refine SeqAt.in_listAt (eqU x) pl.isList (fun w hw => mem_eqAt rx fx r fs w (by simpa using hw)) ⟨.bl _, H, I, rfl, ?_⟩
    rw [show its.toArray.any (eqU x) = its.any (eqU x) by simp, any_eqU r fs]
    exact q
  · obtain ⟨its, r, pl, hz⟩ := I.tuple hq
    refine SeqAt.in_tupleAt (eqU x) pl (fun w hw => mem_eqAt rx fx r fs w (by simpa using hw)) ⟨.bl _, H, I, rfl, ?_⟩
    rw [show its.toArray.any (eqU x) = its.any (eqU x) by simp, any_eqU r fs]
    exact q
theorem call_len_seq : CallR X (.builtin "len") (fun xs H Q => ∃ p ys, xs = [.ref p] ∧ (SqL X.K H p ys ∨ SqT X.K H p ys) ∧ Q (.int ys.length) H) := by
  intro pins s σ H xs us Q I r h
  obtain ⟨p, ys, rfl, hq, q⟩ := h
  obtain ⟨u, rfl, rx⟩ := vals1 r
  cases rx
  have hn := line63
  rcases hq with hq | hq
  · obtain ⟨its, r', pl, hz⟩ := I.list hq
    have hlen := r'.length
    exact Calls.call_len_list pl.isList (by simp only [List.size_toArray] <;> omega) ⟨.int ys.length, H, I.tok _, ⟨s.toks + 1, by rw [List.size_toArray, hlen]⟩, q⟩
  · obtain ⟨its, r', pl, hz⟩ := I.tuple hq
    have hlen := r'.length
    exact len_tuple pl (by simp only [List.size_toArray] <;> omega) ⟨.int ys.length, H, I.tok _, ⟨s.toks + 1, by rw [List.size_toArray, hlen]⟩, q⟩
theorem call_len_str : CallR X (.builtin "len") (fun xs H Q => ∃ z, xs = [.str z] ∧ z.length ≤ sizeLine ∧ Q (.int z.length) H) := by
  intro pins s σ H xs us Q I r h
  obtain ⟨z, rfl, hz, q⟩ := h
  obtain ⟨u, rfl, t, rfl⟩ := vals1 r
  have hn := line63
  exact len_str (by omega) ⟨.int z.length, H, I.tok _, ⟨_, rfl⟩, q⟩
theorem call_list_of : CallR X (.type "list") (fun xs H Q => ∃ p ys, xs = [.ref p] ∧ (SqL X.K H p ys ∨ SqT X.K H p ys) ∧ ∀ l, H l = none → Q (.ref l) (upd H l (.lst ys))) := by
  intro pins s σ H xs us Q I r h
  obtain ⟨p, ys, rfl, hq, q⟩ := h
  obtain ⟨u, rfl, rx⟩ := vals1 r
  cases rx
  have fin : ∀ (its : List Value), Vals ys its → ys.length ≤ sizeLine → ∀ (h' : Heap) (c' : Nat), (∀ b o', s.heap.get? b = some o' → h'.get? b = some o') →
      h'.get? s.heap.objs.size = some { cls := .type "list", dict := none, data := .seq its.toArray c', slots := #[] } → EP X pins σ Q (.ref s.heap.objs.size) { s with heap := h' } := fun its r' hz h' c' kp e =>
    ⟨.ref s.heap.objs.size, _, I.laid (t' := s.toks) kp (Nat.le_refl _) (show ObjOk X.prog X.w _ h' _ (.lst ys) from ⟨hz, its, c', r', e⟩), rfl, q _ (I.hok.fresh (Nat.le_refl _))⟩
  rcases hq with hq | hq
  · obtain ⟨its, r', pl, hz⟩ := I.list hq
    have hlen := r'.length
    obtain ⟨o, ho, hc, n, hd⟩ := pl.isList
    exact call_list_seq p (.inl rfl) ho hc hd (fun h' c' kp e => fin its r' hz h' c' kp e) (by simp only [List.size_toArray] <;> omega)
  · obtain ⟨its, r', pl, hz⟩ := I.tuple hq
    have hlen := r'.length
    obtain ⟨o, ho, hc, n, hd⟩ := pl
    exact call_list_seq p (.inr rfl) ho hc hd (fun h' c' kp e => fin its r' hz h' c' kp e) (by simp only [List.size_toArray] <;> omega)
def tyV (K : PySem.W.Frag) (T : String) (x : V) (H : Hp) : Prop := match x with
  | .str _ => T = "str"
  | .int _ => T = "int"
  | .ref p => (T = "list" ∧ ∃ xs, SqL K H p xs) ∨ (T = "tuple" ∧ ∃ o, K.lookup p = some o ∧ o.cls = .type "tuple" ∧ o.dict = none) ∨
      (T = "dict" ∧ ((∃ kvs, H p = some (.dK kvs)) ∨ ∃ kvs, H p = some (.dT kvs))) ∨ (T = "set" ∧ ∃ S n, H p = some (.set S n))
  | _ => False
theorem tyV_is {pins : List (Addr × Obj)} {σ : St} {H : Hp} {s : Shared} {T : String} {x : V} {v : Value} (I : Inv X pins σ H s) (r : RelV x v) (ty : tyV X.K T x H) :
    s.TypeIs v T ∧ ∀ a, v = .ref a → ∃ ob, s.heap.get? a = some ob ∧ ob.dict = none := by
  cases x with
  | str z =>
    obtain ⟨t, rfl⟩ := r
    cases (show T = "str" from ty)
    exact ⟨typeIs_str s z t, fun _ e => nomatch e⟩
  | int i =>
    obtain ⟨t, rfl⟩ := r
    cases (show T = "int" from ty)
    exact ⟨typeIs_int s i t, fun _ e => nomatch e⟩
  | ref p =>
    cases r
    rcases ty with ⟨rfl, xs, hq⟩ | ⟨rfl, o, hk, hc, hd⟩ | ⟨rfl, hk⟩ | ⟨rfl, S, n, hk⟩
    · obtain ⟨its, _, pl, _⟩ := I.list hq
      refine ⟨pl.isList.typeIs, fun a e => ?_⟩
      cases e
      obtain ⟨o, n, e, c, hd, _⟩ := pl
      exact ⟨o, e, hd⟩
    · refine ⟨⟨o, I.kIn p o hk, hc⟩, fun a e => ?_⟩
      cases e
      exact ⟨o, I.kIn _ o hk, hd⟩
    · have z : ∃ o, s.heap.get? p = some o ∧ o.ExactDict := by
        rcases hk with ⟨kvs, hk⟩ | ⟨kvs, hk⟩
        · obtain ⟨_, _, _, _, o, _, _, e, ex, _⟩ := I.hok p _ hk
          exact ⟨o, e, ex⟩
        · obtain ⟨_, _, _, _, o, _, _, e, ex, _⟩ := I.hok p _ hk
          exact ⟨o, e, ex⟩
      obtain ⟨o, e, ex⟩ := z
      refine ⟨⟨o, e, ex.1⟩, fun a e2 => ?_⟩
      cases e2
      exact ⟨o, e, ex.2.1⟩
    · obtain ⟨o, _, _, _, e, ex, _⟩ := I.hok p _ hk
      refine ⟨⟨o, e, ex.1⟩, fun a e2 => ?_⟩
      cases e2
      exact ⟨o, e, ex.2.1⟩
  | _ => exact False.elim ty
def tBM (K : PySem.W.Frag) (T : String) (r : V → List V → Hp → VK → Prop) (to : TE) (t : TA) : TE := fun σ H Q => to σ H fun x H1 => tyV K T x H1 ∧ t σ H1 fun xs H2 => r x xs H2 Q
variable {o e : Expr} {es : List Expr} {to : TE} {t : TA} {name : Str} {apos cpos : Pos} {T id : String} {r : V → List V → Hp → VK → Prop}
theorem pe_bm (pa : PlainAttrs T) (slot : Slot T name id) (hty : typeOf (.builtin id) = pure (.type "method_descriptor")) (hm : MtR X id r) (ho : PE X o to) (ha : PA X (e :: es) t)
    (hbase : attributeBase o name X.env (eval o X.env) = eval o X.env := by rfl)
    (hfew : ((backTo cpos (starEach (e :: es) X.env)).all (fun x => !x.1) && (backToKw cpos (keywordEach [] X.env)).all (fun x => x.1.isSome)
      && decide ((e :: es).length + ([] : List Keyword).length + (if ([] : List Keyword).isEmpty then 0 else 1) < 30)) = true := by rfl)
    (hline : (apos.endLine == cpos.line) = true := by rfl) (hs : starEach (e :: es) X.env = (false, eval e X.env) :: starEach es X.env := by rfl) (hplain : (backTo cpos (starEach es X.env)).any (·.1) = false := by rfl) :
    PE X (.Call (.Attribute o name apos) (e :: es) [] cpos) (tBM X.K T r to t) := by
  intro pins s σ H Q I h
  refine wpAny_Call_method_late hbase hfew hline rfl (thn (ho pins s σ H _ I h) fun v s1 ⟨x, H1, I1, r1, ty, q1⟩ => ?_)
  obtain ⟨h1, h2⟩ := tyV_is I1 r1 ty
  refine ⟨T, id, pa, slot, hty, h1, h2, ?_⟩
  have hA := ha cpos pins s1 σ H1 _ I1 q1
  rw [hs] at hA ⊢
  refine Calls.callWith_builtin (by show (false || (backTo cpos (starEach es X.env)).any (·.1)) = false; rw [hplain] <;> rfl) (Calls.evalArgs_plain ?_)
  exact thn hA fun us s2 ⟨vs, H2, I2, r2, q2⟩ => hm pins s2 σ H2 x vs v us Q I2 r1 r2 q2
end
end L2
namespace L2
open PySem PySem.Spec PyProof.Rows
def MtM (X : Cx) (id : String) (r : V → List V → Hp → VK → Prop) : Prop :=
  ∀ (pins : List (Addr × Obj)) (s : Shared) (σ : St) (H : Hp) (x : V) (xs : List V) (v : Value) (us : List Value) (Q : VK), Inv X pins σ H s → RelV x v → Vals xs us → r x xs H Q →
    wpAny (model X.prog X.w) X.A (call (.builtin id) (v :: us)) (EP X pins σ Q) X.xe s
theorem Vals.one : ∀ {x : V} {us : List Value}, Vals [x] us → ∃ u, us = [u] ∧ RelV x u
  | _, _, .cons r .nil => ⟨_, rfl, r⟩
theorem Vals.dropLast {xs : List V} {us : List Value} (h : Vals xs us) : Vals xs.dropLast us.dropLast := by
  induction h with
  | nil => exact .nil
  | cons r t ih =>
    cases t with
    | nil => exact .nil
    | cons q t' => exact .cons r ih
theorem erase_last {α : Type} (l : List α) : l.eraseIdx (l.length - 1) = l.dropLast := by
  induction l with
  | nil => rfl
  | cons a r ih =>
    cases r with
    | nil => rfl
    | cons b r =>
      have e : (a :: b :: r).length - 1 = ((b :: r).length - 1) + 1 := by
        have h1 : (a :: b :: r).length = r.length + 2 := rfl
        have h2 : (b :: r).length = r.length + 1 := rfl
        omega
      rw [e, List.eraseIdx_cons_succ, ih]
      all_goals rfl
section
variable {X : Cx} {pins : List (Addr × Obj)} {σ : St} {H : Hp} {s : Shared} {l b : Addr} {xs ys zs : List V}
theorem Inv.lset {its its' : List Value} {n : Nat} {f : Array Value → Array Value} {t' : Nat} (I : Inv X pins σ H s) (hH : H l = some (.lst xs))
    (e : s.heap.get? l = some { cls := .type "list", data := .seq its.toArray n }) (hf : f its.toArray = its'.toArray) (hv : Vals ys its') (hz : ys.length ≤ sizeLine) :
    Inv X pins σ (upd H l (.lst ys)) { s with heap := s.heap.update l (Obj.mapSeq f), toks := t' } := by
  have q := PySem.IsL.update e f
  rw [hf] at q
  refine I.write (x := l) (e := l) (by rw [hH]; exact trivial) (.inl rfl) (fun b' u hb hu => (Heap.get?_update_other s.heap (Obj.mapSeq f) (Ne.symm hb)).trans hu) ⟨_, q⟩ ?_
  exact ⟨hz, its', _, hv, q⟩
theorem Inv.lnew {its : List Value} {t' : Nat} (I : Inv X pins σ H s) (hv : Vals ys its) (hz : ys.length ≤ sizeLine) :
    Inv X pins σ (upd H s.heap.objs.size (.lst ys)) { s with heap := s.heap.push { cls := .type "list", data := .seq its.toArray }, toks := t' } :=
  I.laid (fun _ _ q => Heap.get?_push_of_some _ q) (Nat.le_refl _) ⟨hz, its, 0, hv, Heap.get?_push_size _ rfl⟩
theorem Inv.fresh (I : Inv X pins σ H s) : H s.heap.objs.size = none := I.hok.fresh (Nat.le_refl _)
theorem Inv.lstM (I : Inv X pins σ H s) (hH : H l = some (.lst xs)) : xs.length ≤ sizeLine ∧ ∃ (its : List Value) (n : Nat), Vals xs its ∧ xs.length = its.length ∧ s.heap.get? l = some { cls := .type "list", data := .seq its.toArray n } := by
  obtain ⟨z, its, n, r, e⟩ := I.hok l _ hH
  exact ⟨z, its, n, r, r.length, e⟩
theorem notLongL {n : Nat} (h : n ≤ sizeLine) : Builtin.List.listTooLong n = false := by
  unfold Builtin.List.listTooLong
  exact decide_eq_false (by omega)
end
section
variable {X : Cx}
def rAppend : V → List V → Hp → VK → Prop := fun x vs H Q => ∃ l xs y, x = .ref l ∧ vs = [y] ∧ H l = some (.lst xs) ∧ xs.length < sizeLine ∧ Q .non (upd H l (.lst (xs ++ [y])))
theorem mt_append : MtM X "list.append" rAppend := by
  intro pins s σ H x vs v us Q I rx rv h
  obtain ⟨l, xs, y, rfl, rfl, hH, hz, q⟩ := h
  cases rx
  obtain ⟨u, rfl, ru⟩ := rv.one
  obtain ⟨z, its, n, r, hl, e⟩ := I.lstM hH
  refine call_meets F.slot_list_append ⟨_, e, rfl⟩ F.entry_list_append (F.args_list_append_2 _ _) (PySem.list_append l its.toArray n u (by rw [List.size_toArray]; omega)) ⟨e, ?_⟩
  refine ⟨.non, _, I.lset (its' := its ++ [u]) hH e (by simp) (r.append (.cons ru .nil)) ?_, rfl, q⟩
  rw [List.length_append, List.length_singleton]
  omega
def rExtend : V → List V → Hp → VK → Prop := fun x vs H Q => ∃ l b xs zs, x = .ref l ∧ vs = [.ref b] ∧ H l = some (.lst xs) ∧ H b = some (.lst zs) ∧ xs.length + zs.length ≤ sizeLine ∧ Q .non (upd H l (.lst (xs ++ zs)))
theorem mt_extend : MtM X "list.extend" rExtend := by
  intro pins s σ H x vs v us Q I rx rv h
  obtain ⟨l, b, xs, zs, rfl, rfl, hH, hB, hz, q⟩ := h
  cases rx
  obtain ⟨u, rfl, ru⟩ := rv.one
  cases ru
  obtain ⟨z, its, n, r, hl, e⟩ := I.lstM hH
  obtain ⟨z2, its2, n2, r2, hl2, e2⟩ := I.lstM hB
  have hsz : its.toArray.size + its2.toArray.size ≤ sizeLine := by rw [List.size_toArray, List.size_toArray]; omega
  have hlong : ¬ (!its.toArray.isEmpty && Builtin.List.listTooLong (its.toArray.size + its2.toArray.size)) = true := by
    rw [notLongL hsz, Bool.and_false]
    exact Bool.false_ne_true
  refine call_meets F.slot_list_extend ⟨_, e, rfl⟩ F.entry_list_extend (F.args_list_extend_2 _ _)
    (AutoSeq1.list_extend_list_list_0 l its.toArray n b its2.toArray n2 hlong (by rw [List.size_toArray]; omega) (by omega)) ⟨e, e2, ?_⟩
  refine ⟨.non, _, I.lset (its' := its ++ its2) hH e (by simp) (r.append r2) ?_, rfl, q⟩
  rw [List.length_append]
  omega
def rCat : R2 := fun x y H Q => ∃ l b xs zs, x = .ref l ∧ y = .ref b ∧ H l = some (.lst xs) ∧ H b = some (.lst zs) ∧ xs.length + zs.length ≤ sizeLine ∧ ∀ p, H p = none → Q (.ref p) (upd H p (.lst (xs ++ zs)))
theorem op_cat : OpR X (binaryOp .Add) rCat := by
  intro pins s σ H x y v u Q I rx ry h
  obtain ⟨l, b, xs, zs, rfl, rfl, hH, hB, hz, q⟩ := h
  cases rx
  cases ry
  obtain ⟨z, its, n, r, hl, e⟩ := I.lstM hH
  obtain ⟨z2, its2, n2, r2, hl2, e2⟩ := I.lstM hB
  refine PySem.P.add_list e e2 ?_ (by rw [List.size_toArray, List.size_toArray]; omega)
  have ea : its.toArray ++ its2.toArray = (its ++ its2).toArray := by simp
  rw [ea]
  exact ⟨.ref _, _, I.lnew (t' := s.toks) (r.append r2) (by rw [List.length_append]; omega), rfl, q _ I.fresh⟩
end
section
variable {prog : Program} {w : World} {A : Around} {E : Value → Shared → Prop} {s : Shared}
end
section
variable {X : Cx}
end
open PySem PySem.Spec PyProof.Rows
section
variable {κ : Type} [DecidableEq κ]
def valV (kvs : List (κ × V)) (k : κ) : Option V := (kvs.find? fun kv => decide (kv.1 = k)).map (·.2)
def putK (kvs : List (κ × V)) (k : κ) (v : V) : List (κ × V) :=
  if (kvs.any fun kv => decide (kv.1 = k)) = true then kvs.map (fun kv => if kv.1 = k then (kv.1, v) else kv) else kvs ++ [(k, v)]
theorem valV_nil {k : κ} : valV ([] : List (κ × V)) k = none := rfl
theorem valV_pos {p : κ × V} {r : List (κ × V)} {k : κ} (e : p.1 = k) : valV (p :: r) k = some p.2 := by simp [valV, List.find?_cons, e]
theorem valV_neg {p : κ × V} {r : List (κ × V)} {k : κ} (e : ¬ p.1 = k) : valV (p :: r) k = valV r k := by simp [valV, List.find?_cons, e]
theorem valV_any (k : κ) : ∀ kvs : List (κ × V), (kvs.any fun kv => decide (kv.1 = k)) = (valV kvs k).isSome
  | [] => rfl
  | p :: r => by
    rw [List.any_cons]
    by_cases e : p.1 = k
    · simp only [valV_pos e, decide_eq_true e, Bool.true_or, Option.isSome_some]
    · rw [valV_neg e, decide_eq_false e, Bool.false_or]; exact valV_any k r
theorem valV_map (k j : κ) (y : V) : ∀ kvs : List (κ × V), valV (kvs.map fun kv => if kv.1 = k then (kv.1, y) else kv) j = (valV kvs j).map fun x => if j = k then y else x
  | [] => rfl
  | p :: r => by
    have ih := valV_map k j y r
    rw [List.map_cons]
    by_cases h : p.1 = k
    · rw [if_pos h]
      by_cases e : p.1 = j
      · rw [valV_pos (p := (p.1, y)) e, valV_pos e, Option.map_some, if_pos (e.symm.trans h)]
      · rw [valV_neg (p := (p.1, y)) e, valV_neg e, ih]
    · rw [if_neg h]
      by_cases e : p.1 = j
      · rw [valV_pos (p := p) e, valV_pos e, Option.map_some, if_neg (fun z => h (e.trans z))]
      · rw [valV_neg (p := p) e, valV_neg e, ih]
theorem valV_snoc (k j : κ) (y : V) : ∀ kvs : List (κ × V), valV kvs k = none → valV (kvs ++ [(k, y)]) j = if j = k then some y else valV kvs j
  | [], _ => by
    by_cases e : k = j
    · rw [if_pos e.symm]; exact valV_pos (p := (k, y)) e
    · rw [if_neg (fun z => e z.symm)]; exact valV_neg (p := (k, y)) e
  | p :: r, hn => by
    rw [List.cons_append]
    have hk : ¬ p.1 = k := fun z => by rw [valV_pos z] at hn; cases hn
    rw [valV_neg hk] at hn
    have ih := valV_snoc k j y r hn
    by_cases e : p.1 = j
    · rw [valV_pos e, valV_pos e, if_neg (fun z => hk (e.trans z))]
    · rw [valV_neg e, valV_neg e, ih]
theorem valV_put (kvs : List (κ × V)) (k j : κ) (y : V) : valV (putK kvs k y) j = if j = k then some y else valV kvs j := by
  unfold putK
  by_cases a : (kvs.any fun kv => decide (kv.1 = k)) = true
  · rw [if_pos a, valV_map]
    rw [valV_any] at a
    by_cases e : j = k
    · obtain ⟨x, hx⟩ := Option.isSome_iff_exists.mp a
      rw [if_pos e, e, hx, Option.map_some, if_pos rfl]
    · rw [if_neg e]
      cases valV kvs j with
      | none => rfl
      | some x => rw [Option.map_some, if_neg e]
  · rw [if_neg a]
    refine valV_snoc k j y kvs ?_
    rw [valV_any] at a
    cases q : valV kvs k with
    | none => rfl
    | some x => rw [q] at a; exact (a rfl).elim
theorem length_putK (kvs : List (κ × V)) (k : κ) (v : V) : (putK kvs k v).length ≤ kvs.length + 1 := by
  unfold putK
  split
  · rw [List.length_map]; omega
  · rw [List.length_append, List.length_cons, List.length_nil]; omega
theorem RelO.isSome_eq {o : Option V} {u : Option Value} (r : RelO o u) : o.isSome = u.isSome := by
  cases o with
  | none => cases u with
    | none => rfl
    | some _ => exact (show False from r).elim
  | some _ => cases u with
    | none => exact (show False from r).elim
    | some _ => rfl
theorem RelO.getD {o : Option V} {u : Option Value} {d : V} {d' : Value} (r : RelO o u) (rd : RelV d d') : RelV (o.getD d) (u.getD d') := by
  cases o with
  | none => cases u with
    | none => exact rd
    | some _ => exact (show False from r).elim
  | some _ => cases u with
    | none => exact (show False from r).elim
    | some _ => exact r
theorem KV.val {kvs : List (κ × V)} {vs : List (κ × Value)} (r : KV kvs vs) (k : κ) : RelO (valV kvs k) (valueAt vs k) := by
  unfold KV at r
  induction r with
  | nil => exact True.intro
  | @cons p q ps qs h t ih =>
    obtain ⟨h1, h2⟩ := h
    by_cases e : p.1 = k
    · have e' : q.1 = k := h1.symm.trans e
      have b : valueAt (q :: qs) k = some q.2 := by simp [valueAt, List.find?_cons, e']
      rw [valV_pos e, b]; exact h2
    · have e' : ¬ q.1 = k := fun z => e (h1.trans z)
      have b : valueAt (q :: qs) k = valueAt qs k := by simp [valueAt, List.find?_cons, e']
      rw [valV_neg e, b]; exact ih
theorem KV.any {kvs : List (κ × V)} {vs : List (κ × Value)} (r : KV kvs vs) (k : κ) : (kvs.any fun kv => decide (kv.1 = k)) = vs.any fun kv => decide (kv.1 = k) := by
  unfold KV at r
  induction r with
  | nil => rfl
  | cons h t ih => rw [List.any_cons, List.any_cons, ih, h.1]
theorem KV.repl {kvs : List (κ × V)} {vs : List (κ × Value)} (r : KV kvs vs) (k : κ) {y : V} {u : Value} (ry : RelV y u) :
    KV (kvs.map fun kv => if kv.1 = k then (kv.1, y) else kv) (vs.map fun kv => if kv.1 = k then (kv.1, u) else kv) := by
  unfold KV at r ⊢
  induction r with
  | nil => exact .nil
  | @cons p q ps qs h t ih =>
    rw [List.map_cons, List.map_cons]
    refine .cons ?_ ih
    obtain ⟨h1, h2⟩ := h
    by_cases e : p.1 = k
    · rw [if_pos e, if_pos (h1.symm.trans e)]; exact ⟨h1, ry⟩
    · rw [if_neg e, if_neg (fun z => e (h1.trans z))]; exact ⟨h1, h2⟩
theorem KV.put {kvs : List (κ × V)} {vs : List (κ × Value)} (r : KV kvs vs) (k : κ) {y : V} {u : Value} (ry : RelV y u) : KV (putK kvs k y) (stored vs k u) := by
  unfold putK stored
  rw [r.any k]
  by_cases e : (vs.any fun kv => decide (kv.1 = k)) = true
  · rw [if_pos e, if_pos e]; exact r.repl k ry
  · rw [if_neg e, if_neg e]; exact Paired.snoc r ⟨rfl, ry⟩
theorem KV.length {kvs : List (κ × V)} {vs : List (κ × Value)} (r : KV kvs vs) : kvs.length = vs.length := Paired.length r
end
theorem kV_is {P : Program} {w : World} {k : Key} {u : Value} (r : RelV (kV k) u) : (mixKind P w).is k u = true := by
  cases k with
  | inl i => obtain ⟨t, e⟩ := (show ∃ t, u = Value.int i t from r); subst e; exact mixKind_int P w i t
  | inr x => obtain ⟨t, e⟩ := (show ∃ t, u = Value.str x t from r); subst e; exact mixKind_str P w x t
theorem items_are {P : Program} {w : World} : ∀ {ks : List Key} {us : List Value}, Vals (ks.map kV) us → ItemsAre (mixKind P w) ks us
  | [], _, r => by rw [List.map_nil] at r; cases r; exact .nil
  | k :: ks, _, r => by
    rw [List.map_cons] at r
    cases r with
    | cons h t => exact .cons (kV_is h) (items_are t)
abbrev KT (H : Hp) : List (List Key × V) → List (List Key × Addr × Value) → Prop := Paired fun p q => p.1 = q.1 ∧ H q.2.1 = some (.tup (p.1.map kV)) ∧ RelV p.2 q.2.2
theorem KT.val {H : Hp} {kvs : List (List Key × V)} {xs : List (List Key × Addr × Value)} (r : KT H kvs xs) (k : List Key) : RelO (valV kvs k) ((atKey xs k).map (·.2)) := by
  induction r with
  | nil => exact True.intro
  | @cons p q ps qs h t ih =>
    obtain ⟨h1, _, h2⟩ := h
    by_cases e : p.1 = k
    · have e' : q.1 = k := h1.symm.trans e
      have b : atKey (q :: qs) k = some q.2 := by simp [atKey, List.find?_cons, e']
      rw [valV_pos e, b]; exact h2
    · have e' : ¬ q.1 = k := fun z => e (h1.trans z)
      have b : atKey (q :: qs) k = atKey qs k := by simp [atKey, List.find?_cons, e']
      rw [valV_neg e, b]; exact ih
theorem KT.repl {H : Hp} {kvs : List (List Key × V)} {xs : List (List Key × Addr × Value)} (r : KT H kvs xs) (k : List Key) {y : V} {u : Value} (ry : RelV y u) :
    KT H (kvs.map fun kv => if kv.1 = k then (kv.1, y) else kv) (xs.map (putAt k u)) := by
  induction r with
  | nil => exact .nil
  | @cons p q ps qs h t ih =>
    rw [List.map_cons, List.map_cons]
    refine .cons ?_ ih
    obtain ⟨h1, h2, h3⟩ := h
    unfold putAt
    by_cases e : p.1 = k
    · rw [if_pos e, if_pos (h1.symm.trans e)]; exact ⟨h1, h2, ry⟩
    · rw [if_neg e, if_neg (fun z => e (h1.trans z))]; exact ⟨h1, h2, h3⟩
theorem KT.put {H : Hp} {kvs : List (List Key × V)} {xs : List (List Key × Addr × Value)} (r : KT H kvs xs) (k : List Key) {b : Addr} {y : V} {u : Value} (hb : H b = some (.tup (k.map kV))) (ry : RelV y u) :
    KT H (putK kvs k y) (storedH xs k b u) := by
  have e : (kvs.any fun kv => decide (kv.1 = k)) = (atKey xs k).isSome := by
    rw [valV_any, (r.val k).isSome_eq, Option.isSome_map]
  unfold putK storedH
  rw [e]
  by_cases q : (atKey xs k).isSome = true
  · rw [if_pos q, if_pos q]; exact r.repl k ry
  · rw [if_neg q, if_neg q]; exact Paired.snoc r ⟨rfl, hb, ry⟩
theorem KT.keeps {H H' : Hp} {kvs : List (List Key × V)} {xs : List (List Key × Addr × Value)} (r : KT H kvs xs) (ht : ∀ b ys, H b = some (.tup ys) → H' b = some (.tup ys)) : KT H' kvs xs :=
  Paired.mapP r fun _ _ z => ⟨z.1, ht _ _ z.2.1, z.2.2⟩
section
variable {P : Program} {w : World} {H : Hp} {h : Heap} {a : Addr}
theorem rd_of {u : HO} (ok : HOk P w H h) (e : Rd H a u) : ObjOk P w H h a u := e.ok ok
theorem dk_rd {kvs : List (Key × V)} (ok : HOk P w H h) (e : Rd H a (.dK kvs)) : kvs.length ≤ sizeLine ∧ (a == sysModules) = false ∧ ∃ vs, KV kvs vs ∧ h.DictOf (mixKind P w) a vs :=
  show ObjOk P w H h a (.dK kvs) from rd_of ok e
theorem dk_of {kvs : List (Key × V)} (ok : HOk P w H h) (e : H a = some (.dK kvs)) : kvs.length ≤ sizeLine ∧ (a == sysModules) = false ∧ ∃ vs, KV kvs vs ∧ h.DictOf (mixKind P w) a vs := dk_rd ok (.inl e)
theorem key_of {ks : List Key} (ok : HOk P w H h) (e : H a = some (.tup (ks.map kV))) : (tupleKind (mixKind P w)).is h ks a := by
  obtain ⟨_, its, r, o, h1, h2, n, h3⟩ := (show ObjOk P w H h a (.tup (ks.map kV)) from ok a _ e)
  exact ⟨o, its.toArray, n, h1, h2, h3, by simpa using items_are r⟩
theorem dt_rd {kvs : List (List Key × V)} (ok : HOk P w H h) (e : Rd H a (.dT kvs)) : kvs.length ≤ sizeLine ∧ (a == sysModules) = false ∧
    ∃ xs, KT H kvs xs ∧ h.DictOfH (tupleKind (mixKind P w)) a xs := by
  obtain ⟨z, y, xs, r, o, es, ep, h1, h2, h3, h4, h5⟩ := (show ObjOk P w H h a (.dT kvs) from rd_of ok e)
  refine ⟨z, y, xs, r, o, es, ep, h1, h2, h3, h4, fun x hx => ?_, h5⟩
  have all : ∀ {l : List (List Key × V)} {m : List (List Key × Addr × Value)}, KT H l m → ∀ x ∈ m, (tupleKind (mixKind P w)).is h x.1 x.2.1 := by
    intro l m q
    induction q with
    | nil => intro x hx; exact nomatch hx
    | @cons p q ps qs hq t ih =>
      intro x hx
      rcases List.mem_cons.mp hx with e | hx
      · subst e
        exact key_of ok (by rw [← hq.1]; exact hq.2.1)
      · exact ih x hx
  exact all r x hx
theorem dt_of {kvs : List (List Key × V)} (ok : HOk P w H h) (e : H a = some (.dT kvs)) : kvs.length ≤ sizeLine ∧ (a == sysModules) = false ∧
    ∃ xs, KT H kvs xs ∧ h.DictOfH (tupleKind (mixKind P w)) a xs := dt_rd ok (.inl e)
end
def DGet (H : Hp) (a : Addr) (y : V) (r : Option V) : Prop :=
  (∃ kvs k, Rd H a (.dK kvs) ∧ y = kV k ∧ r = valV kvs k) ∨ ∃ kvs k b, Rd H a (.dT kvs) ∧ y = .ref b ∧ H b = some (.tup (k.map kV)) ∧ r = valV kvs k
def DPut (H : Hp) (a : Addr) (y v : V) (H' : Hp) : Prop :=
  (∃ kvs k, H a = some (.dK kvs) ∧ y = kV k ∧ kvs.length < sizeLine ∧ H' = upd H a (.dK (putK kvs k v))) ∨
  ∃ kvs k b, H a = some (.dT kvs) ∧ y = .ref b ∧ H b = some (.tup (k.map kV)) ∧ kvs.length < sizeLine ∧ H' = upd H a (.dT (putK kvs k v))
theorem DGet.k {H : Hp} {a : Addr} {kvs : List (Key × V)} {k : Key} (e : H a = some (.dK kvs)) : DGet H a (kV k) (valV kvs k) := .inl ⟨kvs, k, .inl e, rfl, rfl⟩
theorem DPut.k {H : Hp} {a : Addr} {kvs : List (Key × V)} {k : Key} {v : V} (e : H a = some (.dK kvs)) (hl : kvs.length < sizeLine) : DPut H a (kV k) v (upd H a (.dK (putK kvs k v))) := .inl ⟨kvs, k, e, rfl, hl, rfl⟩
section
variable {X : Cx} {pins : List (Addr × Obj)} {σ : St} {H : Hp} {s : Shared} {a : Addr} {y v : V} {u r : Value} {o : Option V} {A : Around} {E : Value → Shared → Prop}
theorem Inv.big (I : Inv X pins σ H s) : sysModules < s.heap.objs.size := by
  have h : mainGlobals < s.heap.objs.size := (I.mod.glob.keeps I.bk).lt
  exact Nat.lt_trans (by decide) h
theorem d_getItem {Q : Value → Shared → Prop} (hu : A.units + 1 < cLine) (I : Inv X pins σ H s) (g : DGet H a y (some v)) (ry : RelV y u) (h : ∀ w' s', Inv X pins σ H s' → RelV v w' → Q w' s') :
    wpAny (model X.prog X.w) A (getItem (.ref a) u) Q E s := by
  rcases g with ⟨kvs, k, e, ey, l⟩ | ⟨kvs, k, b, e, ey, eb, l⟩
  · subst ey
    obtain ⟨z, hd, vs, rel, dd⟩ := dk_rd I.hok e
    obtain ⟨w', hw, rw'⟩ := RelO.some_of (v := v) (o := valueAt vs k) (by rw [l]; exact rel.val k)
    exact wpAny_getItem_of (kV_is ry) dd.mapOf hw (h w' _ (I.tok _) rw')
  · subst ey
    cases (show u = Value.ref b from ry)
    obtain ⟨z, hd, xs, rel, dd⟩ := dt_rd I.hok e
    obtain ⟨w', hw, rw'⟩ := RelO.some_of (v := v) (o := (atKey xs k).map (·.2)) (by rw [l]; exact rel.val k)
    obtain ⟨p, hp, hp2⟩ := Option.map_eq_some_iff.mp hw
    refine wpAny_getItem_heap (tupleKind_room_in1 hu) (key_of I.hok eb) dd hp ?_
    rw [hp2]
    exact h w' _ (I.tok _) rw'
theorem d_write {h' : Heap} {t' : Nat} {ob : HO} (I : Inv X pins σ H s) (mu : Mut (H a)) (hs : Heap.SameBut a s.heap h') (he : ∃ q, h'.get? a = some q) (new : ObjOk X.prog X.w (upd H a ob) h' a ob) :
    Inv X pins σ (upd H a ob) { s with heap := h', toks := t' } :=
  I.write (x := a) (e := a) mu (.inl rfl) (fun b q hb z => (hs.2 b hb).trans z) he new
theorem dk_new {P : Program} {w : World} {H' : Hp} {h' : Heap} {kvs : List (Key × V)} {vs : List (Key × Value)} (z : kvs.length ≤ sizeLine) (hd : (a == sysModules) = false) (rel : KV kvs vs) (dd : h'.DictOf (mixKind P w) a vs) :
    ObjOk P w H' h' a (.dK kvs) := ⟨z, hd, vs, rel, dd⟩
theorem d_setItem {H' : Hp} {Q : Unit → Shared → Prop} (hu : A.units + 1 < cLine) (I : Inv X pins σ H s) (g : DPut H a y v H') (ry : RelV y u) (rv : RelV v r) (h : ∀ s', Inv X pins σ H' s' → Q () s') :
    wpAny (model X.prog X.w) A (setItem (.ref a) u r) Q E s := by
  rcases g with ⟨kvs, k, e, ey, l, eH⟩ | ⟨kvs, k, b, e, ey, eb, l, eH⟩
  · subst ey eH
    obtain ⟨z, hd, vs, rel, dd⟩ := dk_of I.hok e
    have hz : vs.length ≤ sizeLine := by rw [← rel.length]; exact z
    have hl : (putK kvs k v).length ≤ sizeLine := by have := length_putK kvs k v; omega
    refine wpAny_setItem_pairs (hsz := hz) (kV_is ry) dd fun h' dd' hs => h _ ?_
    have he : ∃ q, h'.get? a = some q := let ⟨q, _, _, hq, _⟩ := dd'; ⟨q, hq⟩
    exact d_write I (by rw [e]; exact True.intro) hs he (dk_new hl hd (rel.put k rv) dd')
  · subst ey eH
    cases (show u = Value.ref b from ry)
    obtain ⟨z, hd, xs, rel, dd⟩ := dt_of I.hok e
    have hz : xs.length ≤ sizeLine := by rw [← Paired.length rel]; exact z
    have hl : (putK kvs k v).length ≤ sizeLine := by have := length_putK kvs k v; omega
    refine wpAny_setItem_heap (hsz := hz) (tupleKind_room_in1 hu) (key_of I.hok eb) dd fun h' dd' hs => h _ ?_
    obtain ⟨q, es, ep, hq, h2, h3, h4, _, h5⟩ := dd'
    refine d_write I (by rw [e]; exact True.intro) hs ⟨q, hq⟩ ⟨hl, hd, _, (rel.put k eb rv).keeps fun c ys ec => ?_, q, es, ep, hq, h2, h3, h4, h5⟩
    rw [upd_ne (ne_of ec e (fun z => nomatch z))]
    exact ec
end
section
variable {X : Cx} {pins : List (Addr × Obj)} {σ : St} {H : Hp} {s : Shared} {a : Addr} {kvs : List (Key × V)} {k : Key} {u : Value} {A : Around} {E : Value → Shared → Prop}
end
def NoSl (i : Expr) : Prop := ∀ ov iv, subscripted i false ov iv = operate [ov, iv] (getItem ov iv)
theorem subD_of {prog : Program} {w : World} {A : Around} {E : Value → Shared → Prop} {s : Shared} {env : Env} {value slice : Expr} {pos : Pos} {T id : String} {Q : Value → Shared → Prop}
    (hl : typeLookup (.type T) "__getitem__" = pure (some (.builtin id))) (hs : NoSl slice)
    (h : wpAny (model prog w) A (eval value env) (fun o s₁ => wpAny (model prog w) A (eval slice env) (fun i s₂ => s₂.TypeIs o T ∧ wpAny (model prog w) A (getItem o i) Q E s₂) E s₁) E s) :
    wpAny (model prog w) A (eval (.Subscript value slice pos) env) Q E s := by
  refine Subscript_ (wpAny_mono h (fun o s₁ h₁ => wpAny_mono h₁ (fun i s₂ h₂ => ?_) fun _ _ x => x) fun _ _ x => x)
  obtain ⟨hT, h₂⟩ := h₂
  unfold subscriptTail
  refine wpAny_bind ?_
  rw [getitemInPython_of_ne hT.not_modules]
  refine wpAny_bind (wpAny_specialOf hT hl ?_)
  have fin : wpAny (model prog w) A (subscripted slice false o i) (fun r s₃ => wpAny (model prog w) A (letTemporaryGo value o r >>= fun _ => pure r) Q E s₃) E s₂ := by
    rw [hs o i]
    exact wpAny_operating (wpAny_mono h₂ (fun r s₃ h₃ => wpAny_bind (wpAny_letTemporaryGo (wpAny_pure h₃))) fun _ _ x => x)
  first
    | exact wpAny_pure (wpAny_bind fin)
    | exact wpAny_bind (wpAny_pure (wpAny_bind fin))
    | exact wpAny_bind fin
theorem dict_typeIs {X : Cx} {pins : List (Addr × Obj)} {σ : St} {H : Hp} {s : Shared} {a : Addr} {y : V} {o : Option V} (I : Inv X pins σ H s) (g : DGet H a y o) : s.TypeIs (.ref a) "dict" := by
  rcases g with ⟨kvs, k, e, _, _⟩ | ⟨kvs, k, b, e, _, _, _⟩
  · obtain ⟨_, _, vs, _, dd⟩ := dk_rd I.hok e
    exact dd.typeIs
  · obtain ⟨_, _, xs, _, dd⟩ := dt_rd I.hok e
    exact dd.typeIs
def tDGet (td ty : TE) : TE := fun σ H Q => td σ H fun x H1 => ty σ H1 fun y H2 => ∃ a v, x = .ref a ∧ DGet H2 a y (some v) ∧ Q v H2
def sDPut (td ty tv : TE) : TS := fun D σ H => tv σ H fun v H1 => td σ H1 fun x H2 => ty σ H2 fun y H3 => ∃ a H4, x = .ref a ∧ DPut H3 a y v H4 ∧ D.nx σ H4
section
variable {X : Cx} {o i e value : Expr} {pos pos' tpos : Pos} {td ty tv : TE}
theorem pe_dget (hu : X.A.units + 1 < cLine) (ho : PE X o td) (hi : PE X i ty) (hs : NoSl i) : PE X (.Subscript o i pos) (tDGet td ty) := by
  intro pins s σ H Q I h
  refine subD_of PySem.F.slot_dict_getitem.lookup hs (thn (ho pins s σ H _ I h) fun u s1 ⟨x, H1, I1, rx, q1⟩ => thn (hi pins s1 σ H1 _ I1 q1) fun iv s2 ⟨y, H2, I2, ry, a, v, ex, g, q2⟩ => ?_)
  subst ex
  obtain rfl : u = Value.ref a := rx
  exact ⟨dict_typeIs I2 g, d_getItem hu I2 g ry fun w' s3 I3 rw' => ⟨v, H2, I3, rw', q2⟩⟩
theorem ps_dput (hu : X.A.units + 1 < cLine) (ho : PE X o td) (hi : PE X i ty) (hv : PE X value tv) (hs : swapsWith value (some (.Subscript o i pos')) pos.line X.env = pure false) :
    PS X (.Assign [.Subscript o i pos'] value pos) (sDPut td ty tv) := by
  intro pins s σ H D I h
  refine wpAny_Assign_Subscript (thn (hv pins s σ H _ I h) fun r s1 ⟨v, H1, I1, rv, q1⟩ => thn (ho pins s1 σ H1 _ I1 q1) fun u s2 ⟨x, H2, I2, rx, q2⟩ => thn (hi pins s2 σ H2 _ I2 q2) fun iv s3 ⟨y, H3, I3, ry, a, H4, ex, g, q3⟩ => ?_) hs
  subst ex
  obtain rfl : u = Value.ref a := rx
  exact d_setItem hu I3 g ry rv fun s4 I4 => ⟨σ, H4, I4, q3⟩
end
theorem dk_empty {P : Program} {w : World} {H : Hp} (h : Heap) (hb : sysModules < h.objs.size) : ObjOk P w H (h.push { cls := .type "dict", data := .dict #[] }) h.objs.size (.dK []) :=
  ⟨Nat.zero_le _, beq_eq_false_iff_ne.mpr (Ne.symm (Nat.ne_of_lt hb)), [], .nil, Heap.DictOf.new h⟩
def tDNewK : TE := fun _ H Q => ∀ p, H p = none → Q (.ref p) (upd H p (.dK []))
section
variable {X : Cx} {pos : Pos}
theorem pe_dnewK : PE X (.Dict [] [] pos) tDNewK := fun pins s σ H Q I h =>
  wpAny_Dict_empty ⟨.ref s.heap.objs.size, _, I.laid (a := s.heap.objs.size) (o := .dK []) (t' := s.toks) (fun _ _ q => Heap.get?_push_of_some _ q) (Nat.le_refl _) (dk_empty s.heap I.big), rfl, h _ (I.hok.fresh (Nat.le_refl _))⟩
end
def tPairs : List (TE × TE) → St → Hp → (List (V × V) → Hp → Prop) → Prop
  | [], _, H, Q => Q [] H
  | (tk, tv) :: r, σ, H, Q => tk σ H fun x H1 => tv σ H1 fun y H2 => tPairs r σ H2 fun ps H3 => Q ((x, y) :: ps) H3
abbrev VV : List (V × V) → List (Value × Value) → Prop := Paired fun p q => RelV p.1 q.1 ∧ RelV p.2 q.2
def PPs (X : Cx) (pos : Pos) (keys : List (Option Expr)) (values : List Expr) (trs : List (TE × TE)) : Prop :=
  ∀ (pins : List (Addr × Obj)) (s : Shared) (σ : St) (H : Hp) (Q : List (V × V) → Hp → Prop), Inv X pins σ H s → tPairs trs σ H Q →
    wpAny (model X.prog X.w) X.A (evalPairs (pairTrees keys values X.env pos)) (fun vs s' => ∃ ps H', Inv X pins σ H' s' ∧ VV ps vs ∧ Q ps H') X.xe s
theorem pps_nil {X : Cx} {pos : Pos} : PPs X pos [] [] [] := fun pins s σ H Q I h => pairTrees_nil_walk ⟨[], H, I, .nil, h⟩
theorem pps_cons {X : Cx} {pos : Pos} {k v : Expr} {ks : List (Option Expr)} {vs : List Expr} {tk tv : TE} {trs : List (TE × TE)} (hk : PE X k tk) (hv : PE X v tv) (hr : PPs X pos ks vs trs) :
    PPs X pos (some k :: ks) (v :: vs) ((tk, tv) :: trs) := fun pins s σ H Q I h =>
  pairTrees_cons_walk (thn (hk pins s σ H _ I h) fun u s1 ⟨x, H1, I1, rx, q1⟩ => thn (hv pins s1 σ H1 _ I1 q1) fun w2 s2 ⟨y, H2, I2, ry, q2⟩ =>
    thn (hr pins s2 σ H2 _ I2 q2) fun ws s3 ⟨ps, H3, I3, rel, q3⟩ => ⟨(x, y) :: ps, H3, I3, .cons ⟨rx, ry⟩ rel, q3⟩)
def mergeK (kvs more : List (Key × V)) : List (Key × V) := more.foldl (fun acc kv => putK acc kv.1 kv.2) kvs
theorem KV.merge : ∀ {more : List (Key × V)} {rs : List (Key × Value)} {kvs : List (Key × V)} {vs : List (Key × Value)}, KV more rs → KV kvs vs → KV (mergeK kvs more) (merged vs rs) := by
  intro more rs kvs vs r
  unfold KV at r
  induction r generalizing kvs vs with
  | nil => intro q; exact q
  | @cons p q ps qs h t ih =>
    intro r0
    have e : KV (putK kvs p.1 p.2) (stored vs q.1 q.2) := by
      have := r0.put p.1 h.2
      rw [← h.1]; exact this
    exact ih e
theorem length_mergeK : ∀ (more kvs : List (Key × V)), (mergeK kvs more).length ≤ kvs.length + more.length
  | [], kvs => by show kvs.length ≤ kvs.length + 0; omega
  | p :: r, kvs => by
    have h1 := length_mergeK r (putK kvs p.1 p.2)
    have h2 := length_putK kvs p.1 p.2
    show (mergeK (putK kvs p.1 p.2) r).length ≤ _
    rw [List.length_cons]; omega
theorem carries_of {P : Program} {w : World} : ∀ {kvs : List (Key × V)} {ws : List (Value × Value)}, VV (kvs.map fun kv => (kV kv.1, kv.2)) ws → ∃ rs, Carries (mixKind P w) ws rs ∧ KV kvs rs
  | [], _, r => by rw [List.map_nil] at r; cases r; exact ⟨[], True.intro, .nil⟩
  | p :: kvs, _, r => by
    rw [List.map_cons] at r
    cases r with
    | @cons a b as bs h t =>
      obtain ⟨rs, c, q⟩ := carries_of (P := P) (w := w) t
      obtain ⟨b1, b2⟩ := b
      exact ⟨(p.1, b2) :: rs, ⟨kV_is h.1, rfl, c⟩, .cons ⟨rfl, h.2⟩ q⟩
def tDisp (trs : List (TE × TE)) : TE := fun σ H Q => ∀ p, H p = none → tPairs trs σ (upd H p (.dK [])) fun ps H2 => H2 p = some (.dK []) ∧ ∃ kvs : List (Key × V), ps = kvs.map (fun kv => (kV kv.1, kv.2)) ∧ kvs.length ≤ 15 ∧ Q (.ref p) (upd H2 p (.dK (mergeK [] kvs)))
theorem pe_disp {X : Cx} {pos : Pos} {keys : List (Option Expr)} {values : List Expr} {trs : List (TE × TE)} (h : PPs X pos keys values trs) (hall : keys.all (·.isSome) = true) (hl : keys.length = values.length) (h0 : keys ≠ [])
    (h15 : keys.length ≤ 15) : PE X (.Dict keys values pos) (tDisp trs) := by
  intro pins s σ H Q I q
  have hn := I.hok.fresh (Nat.le_refl s.heap.objs.size)
  have I1 := I.laid (a := s.heap.objs.size) (o := .dK []) (h' := s.heap.push { cls := .type "dict", data := .dict #[] }) (t' := s.toks) (fun _ _ q => Heap.get?_push_of_some _ q) (Nat.le_refl _) (dk_empty s.heap I.big)
  refine wpAny_Dict_walk (knd := mixKind X.prog X.w) hall hl h0 h15 (thn (h pins _ σ _ _ I1 (q _ hn)) fun ws s2 ⟨ps, H2, I2, rel, e, kvs, ep, lk, q2⟩ => ?_)
  subst ep
  obtain ⟨rs, c, rk⟩ := carries_of (P := X.prog) (w := X.w) rel
  obtain ⟨z, hd, vs0, r0, dd⟩ := dk_of I2.hok e
  cases r0
  refine ⟨rs, c, dd, fun h' dd' hs => ⟨.ref s.heap.objs.size, _, ?_, rfl, q2⟩⟩
  have hz : (mergeK [] kvs).length ≤ sizeLine := by
    have h1 := length_mergeK kvs []
    rw [List.length_nil] at h1
    rw [sizeLine_eq]; omega
  have he : ∃ q, h'.get? s.heap.objs.size = some q := let ⟨q, _, _, hq, _⟩ := dd'; ⟨q, hq⟩
  exact d_write I2 (by rw [e]; exact True.intro) hs he (dk_new hz hd (rk.merge .nil) dd')
structure M1 (X : Cx) (o : Expr) (m : Str) (apos : Pos) (e : Expr) (cpos : Pos) : Prop where
  base : attributeBase o m X.env (eval o X.env) = eval o X.env
  few : ((backTo cpos (starEach [e] X.env)).all (fun x => !x.1) && (backToKw cpos (keywordEach [] X.env)).all (fun x => x.1.isSome)
    && decide (([e] : List Expr).length + ([] : List Keyword).length + (if ([] : List Keyword).isEmpty then 0 else 1) < 30)) = true
  line : (apos.endLine == cpos.line) = true
  trees : backTo cpos (starEach [e] X.env) = [(false, eval e X.env)]
structure M2 (X : Cx) (o : Expr) (m : Str) (apos : Pos) (e f : Expr) (cpos : Pos) : Prop where
  base : attributeBase o m X.env (eval o X.env) = eval o X.env
  few : ((backTo cpos (starEach [e, f] X.env)).all (fun x => !x.1) && (backToKw cpos (keywordEach [] X.env)).all (fun x => x.1.isSome)
    && decide (([e, f] : List Expr).length + ([] : List Keyword).length + (if ([] : List Keyword).isEmpty then 0 else 1) < 30)) = true
  line : (apos.endLine == cpos.line) = true
  trees : backTo cpos (starEach [e, f] X.env) = [(false, eval e X.env), (false, eval f X.env)]
def IsD (H : Hp) (a : Addr) : Prop := (∃ kvs, Rd H a (.dK kvs)) ∨ ∃ kvs, Rd H a (.dT kvs)
theorem isD_at {X : Cx} {pins : List (Addr × Obj)} {σ : St} {H : Hp} {s : Shared} {a : Addr} (I : Inv X pins σ H s) (d : IsD H a) :
    s.TypeIs (.ref a) "dict" ∧ (∀ b, Value.ref a = .ref b → ∃ ob, s.heap.get? b = some ob ∧ ob.dict = none) ∧ (a == sysModules) = false := by
  rcases d with ⟨kvs, e⟩ | ⟨kvs, e⟩
  · obtain ⟨_, hd, vs, _, dd⟩ := dk_rd I.hok e
    refine ⟨dd.typeIs, fun b q => ?_, hd⟩
    cases q
    obtain ⟨ob, _, _, h1, h2, _⟩ := dd
    exact ⟨ob, h1, h2.2.1⟩
  · obtain ⟨_, hd, xs, _, dd⟩ := dt_rd I.hok e
    refine ⟨dd.typeIs, fun b q => ?_, hd⟩
    cases q
    obtain ⟨ob, _, _, h1, h2, _⟩ := dd
    exact ⟨ob, h1, h2.2.1⟩
section
variable {X : Cx} {pins : List (Addr × Obj)} {σ : St} {H : Hp} {s : Shared} {a : Addr} {y d : V} {u r : Value} {o : Option V} {A : Around} {E : Value → Shared → Prop}
theorem d_get2 {Q : Value → Shared → Prop} (hu : A.units + 1 < cLine) (I : Inv X pins σ H s) (g : DGet H a y o) (ry : RelV y u) (rd : RelV d r) (h : ∀ w' s', Inv X pins σ H s' → RelV (o.getD d) w' → Q w' s') :
    wpAny (model X.prog X.w) A (call (.builtin "dict.get") [.ref a, u, r]) Q E s := by
  rcases g with ⟨kvs, k, e, ey, l⟩ | ⟨kvs, k, b, e, ey, eb, l⟩
  · subst ey
    obtain ⟨z, hd, vs, rel, dd⟩ := dk_rd I.hok e
    refine call_meetsIn PySem.F.slot_dict_get dd.typeIs PySem.F.entry_dict_get (PySem.F.args_dict_get_3 _ _ _) (meets_dict_get_default (mixKind X.prog X.w) a (kV_is ry) hd r) ⟨_, dd.mapOf, h _ _ (I.tok _) ?_⟩
    rw [l]
    exact (rel.val k).getD rd
  · subst ey
    cases (show u = Value.ref b from ry)
    obtain ⟨z, hd, xs, rel, dd⟩ := dt_rd I.hok e
    refine call_meetsIn PySem.F.slot_dict_get dd.typeIs PySem.F.entry_dict_get (PySem.F.args_dict_get_3 _ _ _) (meetsH_dict_get_default (tupleKind (mixKind X.prog X.w)) a b hd r) ⟨tupleKind_room_in1 hu, k, xs, key_of I.hok eb, dd, h _ _ (I.tok _) ?_⟩
    rw [l]
    exact (rel.val k).getD rd
end
def tDGet2 (td ty tx : TE) : TE := fun σ H Q => td σ H fun x H1 => ∃ a, x = .ref a ∧ IsD H1 a ∧ ty σ H1 fun y H2 => tx σ H2 fun z H3 => ∃ o, DGet H3 a y o ∧ Q (o.getD z) H3
section
variable {X : Cx} {o e f : Expr} {apos cpos : Pos} {td ty tx : TE}
theorem pe_dget2 (hu : X.A.units + 1 < cLine) (ho : PE X o td) (he : PE X e ty) (hf : PE X f tx) (m : M2 X o "get" apos e f cpos) : PE X (.Call (.Attribute o "get" apos) [e, f] [] cpos) (tDGet2 td ty tx) := by
  intro pins s σ H Q I h
  refine wpAny_Call_method m.base m.few m.line PySem.F.plainAttrs_dict PySem.F.slot_dict_get PySem.F.type_dict_get (thn (ho pins s σ H _ I h) fun u s1 ⟨x, H1, I1, rx, a, ex, d, q1⟩ => ?_)
  subst ex
  obtain rfl : u = Value.ref a := rx
  obtain ⟨t1, t2, _⟩ := isD_at I1 d
  refine ⟨t1, t2, ?_⟩
  rw [m.trees]
  refine Calls.callWith_builtin rfl (Calls.evalArgs_plain (Calls.spliced_cons (thn (he pins s1 σ H1 _ I1 q1) fun iv s2 ⟨y, H2, I2, ry, q2⟩ =>
    Calls.spliced_cons (thn (hf pins s2 σ H2 _ I2 q2) fun fv s3 ⟨z, H3, I3, rz, ov, g, q3⟩ => Calls.spliced_nil ?_))))
  exact d_get2 hu I3 g ry rz fun w' s4 I4 rw' => ⟨_, H3, I4, rw', q3⟩
end
section
variable {X : Cx} {pins : List (Addr × Obj)} {σ : St} {H : Hp} {s : Shared} {a : Addr} {kvs : List (Key × V)} {A : Around} {E : Value → Shared → Prop}
end
section
variable {X : Cx} {pins : List (Addr × Obj)} {σ : St} {H : Hp} {s : Shared} {a : Addr} {y : V} {u : Value} {A : Around} {E : Value → Shared → Prop}
end
end L2
namespace Att
open PySem PySem.W PySem.Calls PyProof.Rows
theorem ints_of_wellAll {P : Params} {h : Heap} : ∀ (ns : List Int) (vs : List Value), WellAll P h vs (ns.map WData.int) → IntsAre vs ns := by
  intro ns
  induction ns with
  | nil =>
    intro vs w
    rw [List.map_nil] at w
    cases w
    exact .nil
  | cons n ns ih =>
    intro vs w
    rw [List.map_cons] at w
    cases w with
    | cons a b =>
      cases a
      exact .cons _ _ (ih _ b)
theorem script_of {l : OpenLaw} {n : Nat} (hn : l.most = some n) {P : Params} {h : Heap} {args : List WData} {vals : List Value}
    (hpre : l.row.toRowW.claim.pre args = true) (hwl : WellAll P h vals args) :
    ∃ a vs ns, vals = [Value.ref a] ∧ args = [WData.list (ns.map WData.int)] ∧ h.get? a = some { cls := .type "list", data := .seq vs.toArray } ∧ IntsAre vs ns ∧ ns.length ≤ n := by
  have hsh : WShape.hasAll [] args [.list .int] = true := (pre_splitW hpre).1
  have hc : l.pre.holds [] { args := args } = true := (pre_splitW hpre).2
  obtain ⟨d, r, rfl, h1, h2⟩ := hasAllW_cons hsh
  obtain rfl := hasAllW_nil h2
  obtain ⟨xs, rfl, h3⟩ := hasW_list h1
  obtain ⟨ns, rfl⟩ := items_int h3
  have hlen : ns.length ≤ n := by
    unfold OpenLaw.pre at hc
    have h4 : (WTm.not (.lt (.lit (.int (n : Int))) (.len (.arg 0)))).holds [] { args := [.list (ns.map .int)] } = true := by
      have h4 := (holds_andW hc).1
      rw [hn] at h4
      exact h4
    have h5 := condW_of h4 (w_not (w_lt w_lit (w_len_list (w_arg rfl))))
    rw [List.length_map] at h5
    refine Nat.le_of_not_lt fun q => ?_
    have q' : (n : Int) < ((ns.length : Nat) : Int) := by omega
    first
      | (rw [decide_eq_true q'] at h5; exact absurd h5 (by decide))
      | (simp at h5; omega)
  cases hwl with
  | cons w1 w2 =>
    cases w2
    cases w1 with
    | list ho hall => exact ⟨_, _, ns, rfl, rfl, ho, ints_of_wellAll ns _ hall, hlen⟩
theorem post_true (l : OpenLaw) (args : List WData) : l.row.toRowW.claim.post args (.bool true) args = true :=
  postW_of (r := l.row.toRowW) (X := (true == true))
    (show WShape.has [] (.bool true) .bool = true by first | rfl | decide | simp [WShape.has, WShape.arms, WShape.armsAll])
    (show (WTm.eq .res (.lit (.bool true))).value [] { args := args, res := some (.bool true), after := args } = some (.bool (true == true)) from w_eq_bool (w_res rfl) w_lit) rfl
theorem attach_call {l : OpenLaw} {n : Nat} {q : Program} {loose : List Str} {XP : (Str → Option Value) → Heap → Prop} {YP : World → Heap → Prop} {d : DefRec}
    (hn : l.most = some n) (hdf : d.params.defaults = [])
    (call : ∀ (w : World) (s₀ s₁ : Shared) (mg mb : Str → Option Value) (fa : Addr) (o : Obj) (pm cd doc : Value) (a : Addr) (vs : List Value) (ns : List Int),
      Ground q loose [] XP w s₀ mg mb s₁.heap → YP w s₁.heap →
      s₁.heap.get? fa = some o → o.data = .func (docDef d.name d.params d.body d.scope pm cd doc) → s₁.heap.CodeRec cd d.name → mg d.name = some (.ref fa) →
      s₁.heap.get? a = some { cls := .type "list", data := .seq vs.toArray } → IntsAre vs ns → ns.length ≤ n → s₁.gens = #[] →
      codeAny (model l.prog w) callerA (.call (.ref fa) ⟨[.ref a], []⟩) (fun r s' => r = .ok (.ret (.bool true)) ∧ OldK s₁.heap s'.heap ∧ s'.os = s₁.os ∧ AllBare s'.gens) s₁) :
    WalkO q loose XP YP l.row.toRowW d [] (fun f vs => PySem.call f vs) := by
  intro w s₀ s₁ mg mb G Y fa o pm cd doc dV kV ho hd hcd hD hmg hg args vals as hpre hlay hrd hwl hlo
  obtain rfl : dV = .none := Dflts.none hD hdf
  obtain rfl : kV = .none := Dflts.noKw hD
  obtain ⟨a, vs, ns, rfl, rfl, hobj, hints, hlen⟩ := script_of hn hpre hwl
  refine enter_call (codeAny_mono (call w s₀ s₁ mg mb fa o pm cd doc a vs ns G Y ho (fd_plain hd) hcd hmg hobj hints hlen hg) fun r s' hq => ?_)
  obtain ⟨rfl, h2, h3, h4⟩ := hq
  exact ⟨.inl ⟨.bool true, .bool true, [], rfl, fun _ => rfl, .bool true, post_true l _, fun _ => ⟨List.Pairwise.nil, fun _ hm => (nomatch hm)⟩⟩, h2, h3, h4⟩
section
variable {prog : Program} {w : World} {A : Around} {E : Value → Shared → Prop} {s : Shared} {K : Frag}
end
end Att
namespace L2
open PySem PySem.Spec PyProof.Rows
theorem vals_ints : ∀ {vs : List Value} {ns : List Int}, IntsAre vs ns → Vals (ns.map V.int) vs
  | _, _, .nil => .nil
  | _, _, .cons n t h => .cons ⟨t, rfl⟩ (vals_ints h)
def Only (H : Hp) : Prop := ∀ b, H b = none ∨ ∃ o xs, H b = some (.frz o (.lst xs))
theorem law_call {P : Program} {w : World} {K : PySem.W.Frag} {mg mb : Str → Option Value} {CX : CXT} {k : Nat} {fa a : Addr} {fd : FuncData} {x : Str} {sp : Sp} {s₁ : Shared} {vs : List Value} {ns : List Int}
    (KX : K.In s₁.heap) (hns : s₁.heap.Ns mainGlobals mg) (hb : s₁.heap.Ns builtinsNs mb) (hbb : ∀ x : Str, x ≠ "__name__" → mb x = bootBuiltins x) (hlim : s₁.heap.NoLimit) (hg : s₁.gens = #[])
    (ha : s₁.heap.get? a = some { cls := .type "list", data := .seq vs.toArray }) (hi : IntsAre vs ns) (hl : ns.length ≤ sizeLine) (hr : Room k callerA)
    (F : ∀ base : Heap, K.In base → base.Ns mainGlobals mg → FnOk P w K mg base CX k fa fd [x] sp) (hbind : ∀ (s : Shared) (u : Value), BindsTo s fd ⟨[u], []⟩ [(x, u)])
    (hsp : ∀ H : Hp, Only H → SqL K H a (ns.map V.int) → sp [.ref a] H (fun v _ => v = .bl true) fun _ _ _ => False)
    (hCX : ∀ H e s', CX [] H s₁ (fun _ _ _ => False) e s' → False) :
    codeAny (model P w) callerA (.call (.ref fa) ⟨[.ref a], []⟩) (fun r s' => r = .ok (.ret (.bool true)) ∧ OldK s₁.heap s'.heap ∧ s'.os = s₁.os ∧ AllBare s'.gens) s₁ := by
  have rv := vals_ints hi
  have lenV := hi.length
  have core : ∀ H : Hp, Only H → SqL K H a (ns.map V.int) → HOk P w H s₁.heap → (∀ b, H b ≠ none → b = a) → (H a ≠ none → K.lookup a = none) →
      codeAny (model P w) callerA (.call (.ref fa) ⟨[.ref a], []⟩) (fun r s' => r = .ok (.ret (.bool true)) ∧ OldK s₁.heap s'.heap ∧ s'.os = s₁.os ∧ AllBare s'.gens) s₁ := by
    intro H hO hS hok hA hK
    have base_of : ∀ {b : Addr} {o : Obj}, s₁.heap.get? b = some o → H b = none → (hidT s₁.heap H).get? b = some o := fun e n => hidT_get e n
    have noA : ∀ {b : Addr} {o : Obj} {es : Array DictEntry} {ep : Nat}, s₁.heap.get? b = some o → o.data = .dict es ep → H b = none := fun {b o es ep} e d => by
      cases q : H b with
      | none => rfl
      | some u =>
        have e' : b = a := hA b (by rw [q]; simp)
        subst e'
        rw [ha] at e; cases e
        have d' : Data.seq vs.toArray _ = Data.dict es ep := d
        cases d'
    have nsK : ∀ {b : Addr} {m : Str → Option Value}, s₁.heap.Ns b m → (hidT s₁.heap H).Ns b m := fun {b m} ⟨o, es, ep, e, d, r⟩ => ⟨o, es, ep, base_of e (noA e d), d, r⟩
    have hKb : K.In (hidT s₁.heap H) := fun b o e => base_of (KX b o e) (by
      cases q : H b with
      | none => rfl
      | some u =>
        have e' : b = a := hA b (by rw [q]; simp)
        subst e'
        rw [hK (by rw [q]; simp)] at e; cases e)
    have hM : Mod K mg (hidT s₁.heap H) := ⟨hKb, nsK hns, ⟨mb, nsK hb, hbb⟩, let ⟨mc, h1, h2⟩ := hlim; ⟨mc, nsK h1, h2⟩⟩
    have e0 : Env0 P w K mg (hidT s₁.heap H) callerA [] s₁ H := ⟨rfl, hM, fun b o e => of_hidT e, Nat.le_of_eq (hidT_size _ _), trivial, fun b hb => absurd (show b ∈ ([] : List Addr) from hb) (by simp), hok, .of_eq hg⟩
    refine codeAny_mono ((F _ hKb (nsK hns)).run callerA [] s₁ H ⟨[.ref a], []⟩ [.ref a] [.ref a] _ _ hr e0 (hbind s₁ (.ref a)) (.cons rfl .nil) (hsp H hO hS)) fun r s' h => ?_
    cases r with
    | error e => exact (hCX H e s' h).elim
    | ok fl =>
      cases fl with
      | next => exact False.elim h
      | brk => exact False.elim h
      | cont => exact False.elim h
      | ret u =>
        obtain ⟨v, H', os, bare, un, hok', r', q⟩ := h
        have q' : v = .bl true := q
        subst q'
        obtain rfl : u = Value.bool true := r'
        refine ⟨rfl, OldK.of_keep fun b o e => ?_, os, bare⟩
        cases q : H b with
        | none => exact un.keep b o e q (by intro z; exact absurd (show b ∈ ([] : List Addr) from z) (by simp)) (by simp)
        | some u =>
          rcases hO b with z | ⟨ob, xs, z⟩
          · rw [q] at z; cases z
          · have z2 := un.frzs b ob _ z
            obtain ⟨e1, _⟩ := hok b _ z
            obtain ⟨e2, _⟩ := hok' b _ z2
            rw [e] at e1; cases e1
            exact e2
  cases hk : K.lookup a with
  | some o =>
    have e := KX a o hk
    rw [ha] at e
    cases e
    refine core (fun _ => none) (fun _ => .inl rfl) (.inr ⟨_, vs.toArray, _, hk, rfl, rfl, rfl, by rw [List.size_toArray, lenV]; exact hl, by simpa using rv⟩) (fun b u z => by have z' : (none : Option HO) = some u := z; cases z') (fun b z => absurd rfl z) fun z => absurd rfl z
  | none =>
    refine core (fun b => if b = a then some (.frz { cls := .type "list", data := .seq vs.toArray } (.lst (ns.map V.int))) else none) (fun b => ?_) (.inl (.inr ⟨{ cls := .type "list", data := .seq vs.toArray }, if_pos rfl⟩)) (fun b u z => ?_) (fun b z => ?_) fun _ => hk
    · by_cases hb : b = a
      · exact .inr ⟨_, _, if_pos hb⟩
      · exact .inl (if_neg hb)
    · by_cases hb : b = a
      · have z' := (if_pos hb).symm.trans z
        cases z'
        subst hb
        exact ⟨ha, by rw [List.length_map]; exact hl, vs, _, rv, ha⟩
      · have z' := (if_neg hb).symm.trans z
        cases z'
    · by_cases hb : b = a
      · exact hb
      · exact absurd (if_neg hb) z
end L2
namespace L2
open PySem PySem.Spec PyProof.Rows
theorem walk_of {l : PySem.W.OpenLaw} {n k : Nat} {q : Program} {loose : List Str} {XP : (Str → Option Value) → Heap → Prop} {YP : World → Heap → Prop} {d : DefRec} {K : Params → PySem.W.Frag} {CX : World → CXT} {sp : World → Sp} {x : Str}
    (hn : l.most = some n) (hn2 : n ≤ sizeLine) (hdf : d.params.defaults = []) (hr : Room k callerA)
    (hY : ∀ (w : World) (h : Heap), YP w h → (K w.params).In h)
    (F : ∀ (w : World) (mg : Str → Option Value) (fa : Addr) (h : Heap), (K w.params).In h → h.Ns mainGlobals mg → mg d.name = some (.ref fa) →
      ∃ fd : FuncData, (∀ (s : Shared) (u : Value), BindsTo s fd ⟨[u], []⟩ [(x, u)]) ∧
        ∀ base : Heap, (K w.params).In base → base.Ns mainGlobals mg → FnOk l.prog w (K w.params) mg base (CX w) k fa fd [x] (sp w))
    (hsp : ∀ (w : World) (H : Hp) (a : Addr) (ns : List Int), ns.length ≤ n → Only H → SqL (K w.params) H a (ns.map V.int) → sp w [.ref a] H (fun v _ => v = .bl true) fun _ _ _ => False)
    (hCX : ∀ (w : World) (H : Hp) (s : Shared) (e : Value) (s' : Shared), CX w [] H s (fun _ _ _ => False) e s' → False) :
    PySem.W.WalkO q loose XP YP l.row.toRowW d [] (fun f vs => PySem.call f vs) := by
  refine Att.attach_call hn hdf fun w s₀ s₁ mg mb fa o pm cd doc a vs ns G Y ho hd hcd hmg hobj hints hlen hg => ?_
  have KX := hY w _ Y
  obtain ⟨fd, hb, hF⟩ := F w mg fa _ KX G.T.g hmg
  exact law_call KX G.T.g G.T.b G.T.builtins G.T.nolimit hg hobj hints (Nat.le_trans hlen hn2) hr hF hb (fun H hO hS => hsp w H a ns hlen hO hS) fun H e s' => hCX w H s₁ e s'
end L2
namespace L2
open PySem PySem.Spec PyProof.Rows
def inClass (s : Stmt) (j : Nat) : Stmt := match s with
  | .ClassDef _ _ _ body _ _ _ _ _ _ _ => body.getD j (.Pass ⟨0, 0, 0, 0⟩)
  | _ => .Pass ⟨0, 0, 0, 0⟩
def defArgs (s : Stmt) : Arguments := match s with
  | .FunctionDef _ a _ _ _ _ _ _ _ _ => a
  | _ => { posonlyargs := [], args := [], vararg := none, kwonlyargs := [], kw_defaults := [], kwarg := none, defaults := [] }
def defBody (s : Stmt) : List Stmt := match s with
  | .FunctionDef _ _ b _ _ _ _ _ _ _ => b
  | _ => []
def defScope (s : Stmt) : Scope := match s with
  | .FunctionDef _ _ _ _ _ _ sc _ _ _ => sc
  | _ => { kind := .function, names := [], isGenerator := false, isCoroutine := false }
abbrev CX0 : CXT := fun _ _ _ _ _ _ => False
abbrev E0 : XK := fun _ _ _ => False
theorem pass0 {X : Cx} : Passes CX0 X E0 := fun _ _ _ _ _ _ _ h => h.elim
structure Fun (K : PySem.W.Frag) (x qual : Str) (st : Stmt) (f : Addr) (fd : FuncData) : Prop where
  ex : ∃ (oc : Value) (od : Option Addr) (kV doc pm : Value) (an : Option Addr) (cdv ct : Value) (osl : Array (Option Value)),
    fd = PySem.W.fnOf x qual (defArgs st) (defBody st) (defScope st) .none kV doc pm an cdv ct ∧ K.lookup f = some ⟨oc, od, .func fd, osl⟩ ∧ PySem.W.codeIn K cdv qual = true
  kp : PySem.W.keepIn K (.ref f) = true
section
variable {P : Program} {w : World} {K : PySem.W.Frag} {mg : Str → Option Value} {base : Heap}
theorem Fun.ok {x qual : Str} {st : Stmt} {f : Addr} {fd : FuncData} {N ps : List Str} {k : Nat} {sp : Sp} (F : Fun K x qual st f fd) (S : FnScope N ps (defScope st)) (len : ∀ vs H Q E, sp vs H Q E → vs.length = ps.length)
    (hbody : ∀ (cdv : Value) (A : Around) (outer : List Env) (s : Shared) (H : Hp) (vs : List V) (Q : VK) (E : XK), Room k (A.deeper (envOfC qual (defScope st) s.heap.objs.size f cdv)) → sp vs H Q E →
      ∃ t, PSs (cxOf CX0 P w K mg base N qual (defScope st) f cdv A outer s H E).nox (defBody st) t ∧ t { nx := fun _ H' => Q .non H', rt := Q } (start N vs) H) : FnOk P w K mg base CX0 (k + 1) f fd ps sp := by
  obtain ⟨oc, od, kV, doc, pm, an, cdv, ct, osl, rfl, lk, hcd⟩ := F.ex
  refine fn_of lk hcd S len fun A outer s H vs Q E hr hsp => ?_
  obtain ⟨t, h, q⟩ := hbody cdv A outer s H vs Q E hr hsp
  exact ⟨t, h.nox, q⟩
theorem Fun.binds {x qual : Str} {st : Stmt} {f : Addr} {fd : FuncData} {ps : List Str} (F : Fun K x qual st f fd)
    (h : ∀ (kV doc pm : Value) (an : Option Addr) (cdv ct : Value) (us : List Value), us.length = ps.length → bindArgs (PySem.W.fnOf x qual (defArgs st) (defBody st) (defScope st) .none kV doc pm an cdv ct) ⟨us, []⟩ = pure (ps.zip us)) : Binds K fd ps [] := by
  obtain ⟨oc, od, kV, doc, pm, an, cdv, ct, osl, rfl, lk, hcd⟩ := F.ex
  exact .all (h kV doc pm an cdv ct)
theorem fun_mk {x qual : Str} {st : Stmt} {f : Addr} {oc : Value} {od an : Option Addr} {osl : Array (Option Value)} {kV doc pm cdv ct : Value} (l : K.lookup f = some ⟨oc, od, .func (PySem.W.fnOf x qual (defArgs st) (defBody st) (defScope st) .none kV doc pm an cdv ct), osl⟩)
    (c : PySem.W.codeIn K cdv qual = true) (k : PySem.W.keepIn K (.ref f) = true) : Fun K x qual st f (PySem.W.fnOf x qual (defArgs st) (defBody st) (defScope st) .none kV doc pm an cdv ct) := ⟨⟨oc, od, kV, doc, pm, an, cdv, ct, osl, rfl, l, c⟩, k⟩
end
theorem hu_of {A : Around} {k : Nat} (hr : Room k A) : A.units + 1 < cLine := Nat.lt_of_le_of_lt (Nat.add_le_add_left (by decide : 1 ≤ 64) _) hr.units
theorem small1000 {n : Nat} (h : n ≤ 1000) : n < sizeLine := Nat.lt_of_le_of_lt h (by decide)
section
variable {X : Cx}
theorem pv (i : Nat) {x : Str} {pos : Pos} (hN : X.N[i]? = some x := by rfl) (hv : Vis X.env.scope x := by first | exact Or.inl rfl | exact Or.inr (Or.inl rfl) | exact Or.inr (Or.inr rfl)) (hd : (x == ("__debug__" : Str)) = false := by decide)
    (hcd : (x == ("__classdict__" : Str)) = false := by decide) : PE X (.Name x pos) (tVar i) := pe_var hN hv hd hcd
end
theorem iteF {A B : Prop} (h : B) : if false = true then A else B := by
  rw [if_neg Bool.false_ne_true]
  exact h
theorem iteT {A B : Prop} (h : A) : if true = true then A else B := by
  rw [if_pos rfl]
  exact h
theorem iteNS {c A B : Prop} [Decidable c] (hc : c) (h : B) : if (!decide c) = true then A else B := by
  rw [decide_eq_true hc]
  exact iteF h
def Same (H H' : Hp) : Prop := ∀ b o, H b = some o → H' b = some o
theorem Same.refl (H : Hp) : Same H H := fun _ _ h => h
theorem Same.trans {H H1 H2 : Hp} (a : Same H H1) (b : Same H1 H2) : Same H H2 := fun c o h => b c o (a c o h)
theorem Same.free {H H' : Hp} (e : Same H H') {l : Addr} (h : H' l = Option.none) : H l = Option.none := by
  cases q : H l with
  | none => rfl
  | some o =>
    rw [e l o q] at h
    cases h
theorem Same.seq {K : PySem.W.Frag} {H H' : Hp} {a : Addr} {xs : List V} (e : Same H H') (h : SqL K H a xs) : SqL K H' a xs := by
  rcases h with (h | ⟨o, h⟩) | h
  · exact .inl (.inl (e _ _ h))
  · exact .inl (.inr ⟨o, e _ _ h⟩)
  · exact .inr h
section
variable {κ : Type} [DecidableEq κ]
end
end L2
end
section
namespace Ks
open PySem L2
def top (i : Nat) : Stmt := PySem.Challenge.pw_oddcoin_k01_whole_told.main.body.getD i (.Pass ⟨0, 0, 0, 0⟩)
def kd (P : Params) (x : Str) (n : Nat) (v : Value) : DictEntry := { hash := PyData.keyHash P x, key := .str x n, val := v }
def KK : Params → PySem.W.Frag := fun P =>
  (nat_lit 2, { cls := Value.none, data := Data.dict #[] }) ::
  (nat_lit 3, { cls := Value.type "dict", data := Data.dict #[kd P "__name__" 165 (Value.str "law_oddcoin_k01_whole_told" 577), kd P "__doc__" 166 Value.none, kd P "__package__" 167 Value.none, kd P "__loader__" 168 (Value.builtin "__main__.__loader__#opaque"), kd P "__spec__" 169 Value.none, kd P "__annotations__" 170 (Value.ref 6), kd P "__builtins__" 171 (Value.ref 4), kd P "__file__" 173 (Value.str "/claim/cut.py" 172), kd P "__cached__" 174 Value.none, kd P "CoinError" 206 (Value.ref 24), kd P "BadMarks" 222 (Value.ref 37), kd P "BadWeighing" 238 (Value.ref 49), kd P "is_whole" 247 (Value.ref 58), kd P "check_marks" 256 (Value.ref 65), kd P "check_side" 266 (Value.ref 72), kd P "check_weighing" 275 (Value.ref 79), kd P "cases" 285 (Value.ref 86), kd P "most_cases" 294 (Value.ref 93), kd P "fewest" 303 (Value.ref 100), kd P "OTHER" 315 (Value.ref 101), kd P "placed" 325 (Value.ref 108), kd P "outcome_by" 333 (Value.ref 115), kd P "may_be_heavy" 340 (Value.ref 122), kd P "may_be_light" 347 (Value.ref 129), kd P "may_all_be_good" 354 (Value.ref 136), kd P "judged" 369 (Value.ref 143), kd P "is_the_one_case" 380 (Value.ref 150), kd P "Answer" 400 (Value.ref 160), kd P "Heavy" 433 (Value.ref 188), kd P "Light" 466 (Value.ref 214), kd P "Nothing" 490 (Value.ref 233), kd P "Open" 528 (Value.ref 259), kd P "coins_with" 536 (Value.ref 266), kd P "paired_first" 548 (Value.ref 273), kd P "kept_off" 556 (Value.ref 280), kd P "first_weighing" 568 (Value.ref 287), kd P "told" 576 (Value.ref 294), kd P "_law_cell_at" 586 (Value.ref 301), kd P "_law_draw" 596 (Value.ref 308), kd P "_law_marks" 602 (Value.ref 313), kd P "_law_cases" 610 (Value.ref 320), kd P "_law_weighing" 616 (Value.ref 325), kd P "_law_behind" 630 (Value.ref 332), kd P "_law_left" 643 (Value.ref 339), kd P "_law_power" 652 (Value.ref 346), kd P "_law_whole" 659 (Value.ref 353), kd P "_law_open" 670 (Value.ref 360), kd P "_law_due" 679 (Value.ref 367), kd P "_law_right" 685 (Value.ref 372), kd P "law" 695 (Value.ref 379)] 50 }) ::
  (nat_lit 15, { cls := Value.type "tuple", data := Data.seq #[Value.type "ValueError"] }) ::
  (nat_lit 22, { cls := Value.type "tuple", data := Data.seq #[] }) ::
  (nat_lit 23, { cls := Value.type "dict", data := Data.dict #[kd P "__module__" 196 (Value.str "oddcoin.errors" 187), kd P "__firstlineno__" 200 (Value.int 2 199), kd P "__static_attributes__" 201 (Value.ref 22), kd P "__weakref__" 203 (Value.ref 25), kd P "__doc__" 204 Value.none] 3 }) ::
  (nat_lit 24, { cls := Value.type "type", data := Data.cls { name := "CoinError", bases := [Value.type "ValueError"], mro := [Value.ref 24, Value.type "ValueError", Value.type "Exception", Value.type "BaseException", Value.type "object"], ns := 23, qualname := "CoinError", subclasses := [Value.ref 37, Value.ref 49] }, slots := #[some (Value.ref 15), none, some (Value.str "CoinError" 189), some (Value.str "CoinError" 197), some (Value.builtin "ValueError.__new__"), some (Value.bool true)] }) ::
  (nat_lit 25, { cls := Value.type "getset_descriptor", data := Data.fields #[Value.str "__weakref__" 202, Value.ref 24, Value.builtin "ExceptionGroup.__weakref__", Value.none] }) ::
  (nat_lit 28, { cls := Value.type "tuple", data := Data.seq #[Value.ref 24] }) ::
  (nat_lit 35, { cls := Value.type "tuple", data := Data.seq #[] }) ::
  (nat_lit 36, { cls := Value.type "dict", data := Data.dict #[kd P "__module__" 214 (Value.str "oddcoin.errors" 187), kd P "__firstlineno__" 218 (Value.int 4 217), kd P "__static_attributes__" 219 (Value.ref 35), kd P "__doc__" 220 Value.none] 2 }) ::
  (nat_lit 37, { cls := Value.type "type", data := Data.cls { name := "BadMarks", bases := [Value.ref 24], mro := [Value.ref 37, Value.ref 24, Value.type "ValueError", Value.type "Exception", Value.type "BaseException", Value.type "object"], ns := 36, qualname := "BadMarks" }, slots := #[some (Value.ref 28), none, some (Value.str "BadMarks" 207), some (Value.str "BadMarks" 215), some (Value.builtin "ValueError.__new__"), some (Value.bool true)] }) ::
  (nat_lit 40, { cls := Value.type "tuple", data := Data.seq #[Value.ref 24] }) ::
  (nat_lit 47, { cls := Value.type "tuple", data := Data.seq #[] }) ::
  (nat_lit 48, { cls := Value.type "dict", data := Data.dict #[kd P "__module__" 230 (Value.str "oddcoin.errors" 187), kd P "__firstlineno__" 234 (Value.int 6 233), kd P "__static_attributes__" 235 (Value.ref 47), kd P "__doc__" 236 Value.none] 2 }) ::
  (nat_lit 49, { cls := Value.type "type", data := Data.cls { name := "BadWeighing", bases := [Value.ref 24], mro := [Value.ref 49, Value.ref 24, Value.type "ValueError", Value.type "Exception", Value.type "BaseException", Value.type "object"], ns := 48, qualname := "BadWeighing" }, slots := #[some (Value.ref 40), none, some (Value.str "BadWeighing" 223), some (Value.str "BadWeighing" 231), some (Value.builtin "ValueError.__new__"), some (Value.bool true)] }) ::
  (nat_lit 52, { cls := Value.type "tuple", data := Data.seq #[] }) ::
  (nat_lit 54, { cls := Value.type "tuple", data := Data.seq #[Value.str "value" 244] }) ::
  (nat_lit 55, { cls := Value.type "tuple", data := Data.seq #[] }) ::
  (nat_lit 57, { cls := Value.type "code", data := Data.fields #[Value.str "is_whole" 241, Value.str "is_whole" 242, Value.str "/claim/cut.py" 243, Value.int 9 0, Value.int 1 0, Value.int 0 0, Value.int 0 0, Value.int 3 0, Value.ref 52, Value.bool true, Value.int 181 0, Value.ref 53, Value.none, Value.ref 54, Value.ref 55, Value.ref 56, Value.int 245 0, Value.int 9 0, Value.str "/claim/cut.py" 246] }) ::
  (nat_lit 58, { cls := Value.type "function", data := Data.func { name := "is_whole", qualname := "is_whole", params := defArgs (top 5), body := .stmts (defBody (top 5)), scope := defScope (top 5), globals := 3, closure := [], defaults := Value.none, kwdefaults := Value.none, pyModule := Value.str "oddcoin.checks" 239, code := Value.ref 57 } }) ::
  (nat_lit 59, { cls := Value.type "tuple", data := Data.seq #[] }) ::
  (nat_lit 61, { cls := Value.type "tuple", data := Data.seq #[Value.str "marks" 251, Value.str "either" 252, Value.str "one_way" 253] }) ::
  (nat_lit 62, { cls := Value.type "tuple", data := Data.seq #[] }) ::
  (nat_lit 64, { cls := Value.type "code", data := Data.fields #[Value.str "check_marks" 248, Value.str "check_marks" 249, Value.str "/claim/cut.py" 250, Value.int 11 0, Value.int 1 0, Value.int 0 0, Value.int 0 0, Value.int 3 0, Value.ref 59, Value.bool true, Value.int 181 0, Value.ref 60, Value.none, Value.ref 61, Value.ref 62, Value.ref 63, Value.int 254 0, Value.int 11 0, Value.str "/claim/cut.py" 255] }) ::
  (nat_lit 65, { cls := Value.type "function", data := Data.func { name := "check_marks", qualname := "check_marks", params := defArgs (top 6), body := .stmts (defBody (top 6)), scope := defScope (top 6), globals := 3, closure := [], defaults := Value.none, kwdefaults := Value.none, pyModule := Value.str "oddcoin.checks" 239, code := Value.ref 64 } }) ::
  (nat_lit 66, { cls := Value.type "tuple", data := Data.seq #[] }) ::
  (nat_lit 68, { cls := Value.type "tuple", data := Data.seq #[Value.str "highest" 260, Value.str "side" 261, Value.str "last" 262, Value.str "coin" 263] }) ::
  (nat_lit 69, { cls := Value.type "tuple", data := Data.seq #[] }) ::
  (nat_lit 71, { cls := Value.type "code", data := Data.fields #[Value.str "check_side" 257, Value.str "check_side" 258, Value.str "/claim/cut.py" 259, Value.int 20 0, Value.int 2 0, Value.int 0 0, Value.int 0 0, Value.int 3 0, Value.ref 66, Value.bool true, Value.int 181 0, Value.ref 67, Value.none, Value.ref 68, Value.ref 69, Value.ref 70, Value.int 264 0, Value.int 20 0, Value.str "/claim/cut.py" 265] }) ::
  (nat_lit 72, { cls := Value.type "function", data := Data.func { name := "check_side", qualname := "check_side", params := defArgs (top 7), body := .stmts (defBody (top 7)), scope := defScope (top 7), globals := 3, closure := [], defaults := Value.none, kwdefaults := Value.none, pyModule := Value.str "oddcoin.checks" 239, code := Value.ref 71 } }) ::
  (nat_lit 73, { cls := Value.type "tuple", data := Data.seq #[] }) ::
  (nat_lit 75, { cls := Value.type "tuple", data := Data.seq #[Value.str "highest" 270, Value.str "left" 271, Value.str "right" 272] }) ::
  (nat_lit 76, { cls := Value.type "tuple", data := Data.seq #[] }) ::
  (nat_lit 78, { cls := Value.type "code", data := Data.fields #[Value.str "check_weighing" 267, Value.str "check_weighing" 268, Value.str "/claim/cut.py" 269, Value.int 32 0, Value.int 3 0, Value.int 0 0, Value.int 0 0, Value.int 3 0, Value.ref 73, Value.bool true, Value.int 181 0, Value.ref 74, Value.none, Value.ref 75, Value.ref 76, Value.ref 77, Value.int 273 0, Value.int 32 0, Value.str "/claim/cut.py" 274] }) ::
  (nat_lit 79, { cls := Value.type "function", data := Data.func { name := "check_weighing", qualname := "check_weighing", params := defArgs (top 8), body := .stmts (defBody (top 8)), scope := defScope (top 8), globals := 3, closure := [], defaults := Value.none, kwdefaults := Value.none, pyModule := Value.str "oddcoin.checks" 239, code := Value.ref 78 } }) ::
  (nat_lit 80, { cls := Value.type "tuple", data := Data.seq #[] }) ::
  (nat_lit 82, { cls := Value.type "tuple", data := Data.seq #[Value.str "marks" 281, Value.str "one_way" 282] }) ::
  (nat_lit 83, { cls := Value.type "tuple", data := Data.seq #[] }) ::
  (nat_lit 85, { cls := Value.type "code", data := Data.fields #[Value.str "cases" 278, Value.str "cases" 279, Value.str "/claim/cut.py" 280, Value.int 40 0, Value.int 1 0, Value.int 0 0, Value.int 0 0, Value.int 3 0, Value.ref 80, Value.bool true, Value.int 181 0, Value.ref 81, Value.none, Value.ref 82, Value.ref 83, Value.ref 84, Value.int 283 0, Value.int 40 0, Value.str "/claim/cut.py" 284] }) ::
  (nat_lit 86, { cls := Value.type "function", data := Data.func { name := "cases", qualname := "cases", params := defArgs (top 10), body := .stmts (defBody (top 10)), scope := defScope (top 10), globals := 3, closure := [], defaults := Value.none, kwdefaults := Value.none, pyModule := Value.str "oddcoin.marks" 276, code := Value.ref 85 } }) ::
  (nat_lit 87, { cls := Value.type "tuple", data := Data.seq #[] }) ::
  (nat_lit 89, { cls := Value.type "tuple", data := Data.seq #[Value.str "weighings" 289, Value.str "most" 290, Value.str "step" 291] }) ::
  (nat_lit 90, { cls := Value.type "tuple", data := Data.seq #[] }) ::
  (nat_lit 92, { cls := Value.type "code", data := Data.fields #[Value.str "most_cases" 286, Value.str "most_cases" 287, Value.str "/claim/cut.py" 288, Value.int 46 0, Value.int 1 0, Value.int 0 0, Value.int 0 0, Value.int 3 0, Value.ref 87, Value.bool true, Value.int 181 0, Value.ref 88, Value.none, Value.ref 89, Value.ref 90, Value.ref 91, Value.int 292 0, Value.int 46 0, Value.str "/claim/cut.py" 293] }) ::
  (nat_lit 93, { cls := Value.type "function", data := Data.func { name := "most_cases", qualname := "most_cases", params := defArgs (top 11), body := .stmts (defBody (top 11)), scope := defScope (top 11), globals := 3, closure := [], defaults := Value.none, kwdefaults := Value.none, pyModule := Value.str "oddcoin.marks" 276, code := Value.ref 92 } }) ::
  (nat_lit 94, { cls := Value.type "tuple", data := Data.seq #[] }) ::
  (nat_lit 96, { cls := Value.type "tuple", data := Data.seq #[Value.str "marks" 298, Value.str "many" 299, Value.str "weighings" 300] }) ::
  (nat_lit 97, { cls := Value.type "tuple", data := Data.seq #[] }) ::
  (nat_lit 99, { cls := Value.type "code", data := Data.fields #[Value.str "fewest" 295, Value.str "fewest" 296, Value.str "/claim/cut.py" 297, Value.int 51 0, Value.int 1 0, Value.int 0 0, Value.int 0 0, Value.int 3 0, Value.ref 94, Value.bool true, Value.int 181 0, Value.ref 95, Value.none, Value.ref 96, Value.ref 97, Value.ref 98, Value.int 301 0, Value.int 51 0, Value.str "/claim/cut.py" 302] }) ::
  (nat_lit 100, { cls := Value.type "function", data := Data.func { name := "fewest", qualname := "fewest", params := defArgs (top 12), body := .stmts (defBody (top 12)), scope := defScope (top 12), globals := 3, closure := [], defaults := Value.none, kwdefaults := Value.none, pyModule := Value.str "oddcoin.marks" 276, code := Value.ref 99 } }) ::
  (nat_lit 101, { cls := Value.type "dict", data := Data.dict #[kd P "left" 306 (Value.str "right" 307), kd P "right" 308 (Value.str "left" 309), kd P "even" 310 (Value.str "even" 311)] 3 }) ::
  (nat_lit 102, { cls := Value.type "tuple", data := Data.seq #[] }) ::
  (nat_lit 104, { cls := Value.type "tuple", data := Data.seq #[Value.str "left" 319, Value.str "right" 320, Value.str "places" 321, Value.str "coin" 322] }) ::
  (nat_lit 105, { cls := Value.type "tuple", data := Data.seq #[] }) ::
  (nat_lit 107, { cls := Value.type "code", data := Data.fields #[Value.str "placed" 316, Value.str "placed" 317, Value.str "/claim/cut.py" 318, Value.int 59 0, Value.int 2 0, Value.int 0 0, Value.int 0 0, Value.int 3 0, Value.ref 102, Value.bool true, Value.int 181 0, Value.ref 103, Value.none, Value.ref 104, Value.ref 105, Value.ref 106, Value.int 323 0, Value.int 59 0, Value.str "/claim/cut.py" 324] }) ::
  (nat_lit 108, { cls := Value.type "function", data := Data.func { name := "placed", qualname := "placed", params := defArgs (top 15), body := .stmts (defBody (top 15)), scope := defScope (top 15), globals := 3, closure := [], defaults := Value.none, kwdefaults := Value.none, pyModule := Value.str "oddcoin.weighing" 304, code := Value.ref 107 } }) ::
  (nat_lit 109, { cls := Value.type "tuple", data := Data.seq #[] }) ::
  (nat_lit 111, { cls := Value.type "tuple", data := Data.seq #[Value.str "place" 329, Value.str "heavy" 330] }) ::
  (nat_lit 112, { cls := Value.type "tuple", data := Data.seq #[] }) ::
  (nat_lit 114, { cls := Value.type "code", data := Data.fields #[Value.str "outcome_by" 326, Value.str "outcome_by" 327, Value.str "/claim/cut.py" 328, Value.int 66 0, Value.int 2 0, Value.int 0 0, Value.int 0 0, Value.int 3 0, Value.ref 109, Value.bool true, Value.int 181 0, Value.ref 110, Value.none, Value.ref 111, Value.ref 112, Value.ref 113, Value.int 331 0, Value.int 66 0, Value.str "/claim/cut.py" 332] }) ::
  (nat_lit 115, { cls := Value.type "function", data := Data.func { name := "outcome_by", qualname := "outcome_by", params := defArgs (top 16), body := .stmts (defBody (top 16)), scope := defScope (top 16), globals := 3, closure := [], defaults := Value.none, kwdefaults := Value.none, pyModule := Value.str "oddcoin.weighing" 304, code := Value.ref 114 } }) ::
  (nat_lit 116, { cls := Value.type "tuple", data := Data.seq #[] }) ::
  (nat_lit 118, { cls := Value.type "tuple", data := Data.seq #[Value.str "sign" 337] }) ::
  (nat_lit 119, { cls := Value.type "tuple", data := Data.seq #[] }) ::
  (nat_lit 121, { cls := Value.type "code", data := Data.fields #[Value.str "may_be_heavy" 334, Value.str "may_be_heavy" 335, Value.str "/claim/cut.py" 336, Value.int 68 0, Value.int 1 0, Value.int 0 0, Value.int 0 0, Value.int 3 0, Value.ref 116, Value.bool true, Value.int 181 0, Value.ref 117, Value.none, Value.ref 118, Value.ref 119, Value.ref 120, Value.int 338 0, Value.int 68 0, Value.str "/claim/cut.py" 339] }) ::
  (nat_lit 122, { cls := Value.type "function", data := Data.func { name := "may_be_heavy", qualname := "may_be_heavy", params := defArgs (top 17), body := .stmts (defBody (top 17)), scope := defScope (top 17), globals := 3, closure := [], defaults := Value.none, kwdefaults := Value.none, pyModule := Value.str "oddcoin.weighing" 304, code := Value.ref 121 } }) ::
  (nat_lit 123, { cls := Value.type "tuple", data := Data.seq #[] }) ::
  (nat_lit 125, { cls := Value.type "tuple", data := Data.seq #[Value.str "sign" 344] }) ::
  (nat_lit 126, { cls := Value.type "tuple", data := Data.seq #[] }) ::
  (nat_lit 128, { cls := Value.type "code", data := Data.fields #[Value.str "may_be_light" 341, Value.str "may_be_light" 342, Value.str "/claim/cut.py" 343, Value.int 70 0, Value.int 1 0, Value.int 0 0, Value.int 0 0, Value.int 3 0, Value.ref 123, Value.bool true, Value.int 181 0, Value.ref 124, Value.none, Value.ref 125, Value.ref 126, Value.ref 127, Value.int 345 0, Value.int 70 0, Value.str "/claim/cut.py" 346] }) ::
  (nat_lit 129, { cls := Value.type "function", data := Data.func { name := "may_be_light", qualname := "may_be_light", params := defArgs (top 18), body := .stmts (defBody (top 18)), scope := defScope (top 18), globals := 3, closure := [], defaults := Value.none, kwdefaults := Value.none, pyModule := Value.str "oddcoin.weighing" 304, code := Value.ref 128 } }) ::
  (nat_lit 130, { cls := Value.type "tuple", data := Data.seq #[] }) ::
  (nat_lit 132, { cls := Value.type "tuple", data := Data.seq #[Value.str "marks" 351] }) ::
  (nat_lit 133, { cls := Value.type "tuple", data := Data.seq #[] }) ::
  (nat_lit 135, { cls := Value.type "code", data := Data.fields #[Value.str "may_all_be_good" 348, Value.str "may_all_be_good" 349, Value.str "/claim/cut.py" 350, Value.int 72 0, Value.int 1 0, Value.int 0 0, Value.int 0 0, Value.int 3 0, Value.ref 130, Value.bool true, Value.int 181 0, Value.ref 131, Value.none, Value.ref 132, Value.ref 133, Value.ref 134, Value.int 352 0, Value.int 72 0, Value.str "/claim/cut.py" 353] }) ::
  (nat_lit 136, { cls := Value.type "function", data := Data.func { name := "may_all_be_good", qualname := "may_all_be_good", params := defArgs (top 19), body := .stmts (defBody (top 19)), scope := defScope (top 19), globals := 3, closure := [], defaults := Value.none, kwdefaults := Value.none, pyModule := Value.str "oddcoin.weighing" 304, code := Value.ref 135 } }) ::
  (nat_lit 137, { cls := Value.type "tuple", data := Data.seq #[] }) ::
  (nat_lit 139, { cls := Value.type "tuple", data := Data.seq #[Value.str "marks" 358, Value.str "left" 359, Value.str "right" 360, Value.str "places" 361, Value.str "counts" 362, Value.str "coin" 363, Value.str "sign" 364, Value.str "place" 365, Value.str "outcome" 366] }) ::
  (nat_lit 140, { cls := Value.type "tuple", data := Data.seq #[] }) ::
  (nat_lit 142, { cls := Value.type "code", data := Data.fields #[Value.str "judged" 355, Value.str "judged" 356, Value.str "/claim/cut.py" 357, Value.int 74 0, Value.int 3 0, Value.int 0 0, Value.int 0 0, Value.int 3 0, Value.ref 137, Value.bool true, Value.int 181 0, Value.ref 138, Value.none, Value.ref 139, Value.ref 140, Value.ref 141, Value.int 367 0, Value.int 74 0, Value.str "/claim/cut.py" 368] }) ::
  (nat_lit 143, { cls := Value.type "function", data := Data.func { name := "judged", qualname := "judged", params := defArgs (top 20), body := .stmts (defBody (top 20)), scope := defScope (top 20), globals := 3, closure := [], defaults := Value.none, kwdefaults := Value.none, pyModule := Value.str "oddcoin.weighing" 304, code := Value.ref 142 } }) ::
  (nat_lit 144, { cls := Value.type "tuple", data := Data.seq #[] }) ::
  (nat_lit 146, { cls := Value.type "tuple", data := Data.seq #[Value.str "marks" 375, Value.str "coin" 376, Value.str "sign" 377] }) ::
  (nat_lit 147, { cls := Value.type "tuple", data := Data.seq #[] }) ::
  (nat_lit 149, { cls := Value.type "code", data := Data.fields #[Value.str "is_the_one_case" 372, Value.str "is_the_one_case" 373, Value.str "/claim/cut.py" 374, Value.int 91 0, Value.int 3 0, Value.int 0 0, Value.int 0 0, Value.int 3 0, Value.ref 144, Value.bool true, Value.int 181 0, Value.ref 145, Value.none, Value.ref 146, Value.ref 147, Value.ref 148, Value.int 378 0, Value.int 91 0, Value.str "/claim/cut.py" 379] }) ::
  (nat_lit 150, { cls := Value.type "function", data := Data.func { name := "is_the_one_case", qualname := "is_the_one_case", params := defArgs (top 22), body := .stmts (defBody (top 22)), scope := defScope (top 22), globals := 3, closure := [], defaults := Value.none, kwdefaults := Value.none, pyModule := Value.str "oddcoin.answers" 370, code := Value.ref 149 } }) ::
  (nat_lit 158, { cls := Value.type "tuple", data := Data.seq #[] }) ::
  (nat_lit 159, { cls := Value.type "dict", data := Data.dict #[kd P "__module__" 388 (Value.str "oddcoin.answers" 370), kd P "__firstlineno__" 392 (Value.int 95 391), kd P "__static_attributes__" 393 (Value.ref 158), kd P "__dict__" 395 (Value.ref 161), kd P "__weakref__" 397 (Value.ref 162), kd P "__doc__" 398 Value.none] 4 }) ::
  (nat_lit 160, { cls := Value.type "type", data := Data.cls { name := "Answer", bases := [Value.type "object"], mro := [Value.ref 160, Value.type "object"], ns := 159, qualname := "Answer", subclasses := [Value.ref 188, Value.ref 214, Value.ref 233, Value.ref 259] }, slots := #[none, none, some (Value.str "Answer" 381), some (Value.str "Answer" 389), some (Value.builtin "object.__new__"), some (Value.bool true)] }) ::
  (nat_lit 161, { cls := Value.type "getset_descriptor", data := Data.fields #[Value.str "__dict__" 394, Value.ref 160, Value.builtin "function.__dict__", Value.builtin "function.__dict__#set"] }) ::
  (nat_lit 162, { cls := Value.type "getset_descriptor", data := Data.fields #[Value.str "__weakref__" 396, Value.ref 160, Value.builtin "ExceptionGroup.__weakref__", Value.none] }) ::
  (nat_lit 165, { cls := Value.type "tuple", data := Data.seq #[Value.ref 160] }) ::
  (nat_lit 172, { cls := Value.type "tuple", data := Data.seq #[] }) ::
  (nat_lit 174, { cls := Value.type "tuple", data := Data.seq #[Value.str "self" 416, Value.str "coin" 417] }) ::
  (nat_lit 175, { cls := Value.type "tuple", data := Data.seq #[] }) ::
  (nat_lit 177, { cls := Value.type "code", data := Data.fields #[Value.str "__init__" 413, Value.str "Heavy.__init__" 414, Value.str "/claim/cut.py" 415, Value.int 99 0, Value.int 2 0, Value.int 0 0, Value.int 0 0, Value.int 3 0, Value.ref 172, Value.bool true, Value.int 181 0, Value.ref 173, Value.none, Value.ref 174, Value.ref 175, Value.ref 176, Value.int 418 0, Value.int 99 0, Value.str "/claim/cut.py" 419] }) ::
  (nat_lit 178, { cls := Value.type "function", data := Data.func { name := "__init__", qualname := "Heavy.__init__", params := { posonlyargs := [], args := [{ arg := "self", annotation := none, pos := { line := 99, col := 17, endLine := 99, endCol := 21 } }, { arg := "coin", annotation := none, pos := { line := 99, col := 23, endLine := 99, endCol := 27 } }], vararg := none, kwonlyargs := [], kw_defaults := [], kwarg := none, defaults := [] }, body := FuncBody.stmts [Stmt.Assign [(Expr.Name "self" { line := 100, col := 8, endLine := 100, endCol := 12 }).Attribute "coin" { line := 100, col := 8, endLine := 100, endCol := 17 }] (Expr.Name "coin" { line := 100, col := 20, endLine := 100, endCol := 24 }) { line := 100, col := 8, endLine := 100, endCol := 24 }], scope := { kind := ScopeKind.function, names := [("self", NameKind.local), ("coin", NameKind.local)], isGenerator := false, isCoroutine := false }, globals := 3, closure := [], defaults := Value.none, kwdefaults := Value.none, pyModule := Value.str "oddcoin.answers" 370, code := Value.ref 177 } }) ::
  (nat_lit 179, { cls := Value.type "tuple", data := Data.seq #[] }) ::
  (nat_lit 181, { cls := Value.type "tuple", data := Data.seq #[Value.str "self" 424, Value.str "marks" 425] }) ::
  (nat_lit 182, { cls := Value.type "tuple", data := Data.seq #[] }) ::
  (nat_lit 184, { cls := Value.type "code", data := Data.fields #[Value.str "shows" 421, Value.str "Heavy.shows" 422, Value.str "/claim/cut.py" 423, Value.int 102 0, Value.int 2 0, Value.int 0 0, Value.int 0 0, Value.int 3 0, Value.ref 179, Value.bool true, Value.int 181 0, Value.ref 180, Value.none, Value.ref 181, Value.ref 182, Value.ref 183, Value.int 426 0, Value.int 102 0, Value.str "/claim/cut.py" 427] }) ::
  (nat_lit 185, { cls := Value.type "function", data := Data.func { name := "shows", qualname := "Heavy.shows", params := { posonlyargs := [], args := [{ arg := "self", annotation := none, pos := { line := 102, col := 14, endLine := 102, endCol := 18 } }, { arg := "marks", annotation := none, pos := { line := 102, col := 20, endLine := 102, endCol := 25 } }], vararg := none, kwonlyargs := [], kw_defaults := [], kwarg := none, defaults := [] }, body := FuncBody.stmts [Stmt.Return (some ((Expr.Name "is_the_one_case" { line := 103, col := 15, endLine := 103, endCol := 30 }).Call [Expr.Name "marks" { line := 103, col := 31, endLine := 103, endCol := 36 }, (Expr.Name "self" { line := 103, col := 38, endLine := 103, endCol := 42 }).Attribute "coin" { line := 103, col := 38, endLine := 103, endCol := 47 }, Expr.Constant (Const.str "h") 0 { line := 103, col := 49, endLine := 103, endCol := 52 }] [] { line := 103, col := 15, endLine := 103, endCol := 53 })) { line := 103, col := 8, endLine := 103, endCol := 53 }], scope := { kind := ScopeKind.function, names := [("self", NameKind.local), ("marks", NameKind.local), ("is_the_one_case", NameKind.globalImplicit)], isGenerator := false, isCoroutine := false }, globals := 3, closure := [], defaults := Value.none, kwdefaults := Value.none, pyModule := Value.str "oddcoin.answers" 370, code := Value.ref 184 } }) ::
  (nat_lit 186, { cls := Value.type "tuple", data := Data.seq #[Value.str "coin" 429] }) ::
  (nat_lit 187, { cls := Value.type "dict", data := Data.dict #[kd P "__module__" 408 (Value.str "oddcoin.answers" 370), kd P "__firstlineno__" 412 (Value.int 97 411), kd P "__init__" 420 (Value.ref 178), kd P "shows" 428 (Value.ref 185), kd P "__static_attributes__" 430 (Value.ref 186), kd P "__doc__" 431 Value.none] 2 }) ::
  (nat_lit 188, { cls := Value.type "type", data := Data.cls { name := "Heavy", bases := [Value.ref 160], mro := [Value.ref 188, Value.ref 160, Value.type "object"], ns := 187, qualname := "Heavy" }, slots := #[some (Value.ref 165), none, some (Value.str "Heavy" 401), some (Value.str "Heavy" 409), some (Value.builtin "object.__new__"), some (Value.bool true)] }) ::
  (nat_lit 191, { cls := Value.type "tuple", data := Data.seq #[Value.ref 160] }) ::
  (nat_lit 198, { cls := Value.type "tuple", data := Data.seq #[] }) ::
  (nat_lit 200, { cls := Value.type "tuple", data := Data.seq #[Value.str "self" 449, Value.str "coin" 450] }) ::
  (nat_lit 201, { cls := Value.type "tuple", data := Data.seq #[] }) ::
  (nat_lit 203, { cls := Value.type "code", data := Data.fields #[Value.str "__init__" 446, Value.str "Light.__init__" 447, Value.str "/claim/cut.py" 448, Value.int 106 0, Value.int 2 0, Value.int 0 0, Value.int 0 0, Value.int 3 0, Value.ref 198, Value.bool true, Value.int 181 0, Value.ref 199, Value.none, Value.ref 200, Value.ref 201, Value.ref 202, Value.int 451 0, Value.int 106 0, Value.str "/claim/cut.py" 452] }) ::
  (nat_lit 204, { cls := Value.type "function", data := Data.func { name := "__init__", qualname := "Light.__init__", params := { posonlyargs := [], args := [{ arg := "self", annotation := none, pos := { line := 106, col := 17, endLine := 106, endCol := 21 } }, { arg := "coin", annotation := none, pos := { line := 106, col := 23, endLine := 106, endCol := 27 } }], vararg := none, kwonlyargs := [], kw_defaults := [], kwarg := none, defaults := [] }, body := FuncBody.stmts [Stmt.Assign [(Expr.Name "self" { line := 107, col := 8, endLine := 107, endCol := 12 }).Attribute "coin" { line := 107, col := 8, endLine := 107, endCol := 17 }] (Expr.Name "coin" { line := 107, col := 20, endLine := 107, endCol := 24 }) { line := 107, col := 8, endLine := 107, endCol := 24 }], scope := { kind := ScopeKind.function, names := [("self", NameKind.local), ("coin", NameKind.local)], isGenerator := false, isCoroutine := false }, globals := 3, closure := [], defaults := Value.none, kwdefaults := Value.none, pyModule := Value.str "oddcoin.answers" 370, code := Value.ref 203 } }) ::
  (nat_lit 205, { cls := Value.type "tuple", data := Data.seq #[] }) ::
  (nat_lit 207, { cls := Value.type "tuple", data := Data.seq #[Value.str "self" 457, Value.str "marks" 458] }) ::
  (nat_lit 208, { cls := Value.type "tuple", data := Data.seq #[] }) ::
  (nat_lit 210, { cls := Value.type "code", data := Data.fields #[Value.str "shows" 454, Value.str "Light.shows" 455, Value.str "/claim/cut.py" 456, Value.int 109 0, Value.int 2 0, Value.int 0 0, Value.int 0 0, Value.int 3 0, Value.ref 205, Value.bool true, Value.int 181 0, Value.ref 206, Value.none, Value.ref 207, Value.ref 208, Value.ref 209, Value.int 459 0, Value.int 109 0, Value.str "/claim/cut.py" 460] }) ::
  (nat_lit 211, { cls := Value.type "function", data := Data.func { name := "shows", qualname := "Light.shows", params := { posonlyargs := [], args := [{ arg := "self", annotation := none, pos := { line := 109, col := 14, endLine := 109, endCol := 18 } }, { arg := "marks", annotation := none, pos := { line := 109, col := 20, endLine := 109, endCol := 25 } }], vararg := none, kwonlyargs := [], kw_defaults := [], kwarg := none, defaults := [] }, body := FuncBody.stmts [Stmt.Return (some ((Expr.Name "is_the_one_case" { line := 110, col := 15, endLine := 110, endCol := 30 }).Call [Expr.Name "marks" { line := 110, col := 31, endLine := 110, endCol := 36 }, (Expr.Name "self" { line := 110, col := 38, endLine := 110, endCol := 42 }).Attribute "coin" { line := 110, col := 38, endLine := 110, endCol := 47 }, Expr.Constant (Const.str "l") 0 { line := 110, col := 49, endLine := 110, endCol := 52 }] [] { line := 110, col := 15, endLine := 110, endCol := 53 })) { line := 110, col := 8, endLine := 110, endCol := 53 }], scope := { kind := ScopeKind.function, names := [("self", NameKind.local), ("marks", NameKind.local), ("is_the_one_case", NameKind.globalImplicit)], isGenerator := false, isCoroutine := false }, globals := 3, closure := [], defaults := Value.none, kwdefaults := Value.none, pyModule := Value.str "oddcoin.answers" 370, code := Value.ref 210 } }) ::
  (nat_lit 212, { cls := Value.type "tuple", data := Data.seq #[Value.str "coin" 462] }) ::
  (nat_lit 213, { cls := Value.type "dict", data := Data.dict #[kd P "__module__" 441 (Value.str "oddcoin.answers" 370), kd P "__firstlineno__" 445 (Value.int 104 444), kd P "__init__" 453 (Value.ref 204), kd P "shows" 461 (Value.ref 211), kd P "__static_attributes__" 463 (Value.ref 212), kd P "__doc__" 464 Value.none] 2 }) ::
  (nat_lit 214, { cls := Value.type "type", data := Data.cls { name := "Light", bases := [Value.ref 160], mro := [Value.ref 214, Value.ref 160, Value.type "object"], ns := 213, qualname := "Light" }, slots := #[some (Value.ref 191), none, some (Value.str "Light" 434), some (Value.str "Light" 442), some (Value.builtin "object.__new__"), some (Value.bool true)] }) ::
  (nat_lit 217, { cls := Value.type "tuple", data := Data.seq #[Value.ref 160] }) ::
  (nat_lit 224, { cls := Value.type "tuple", data := Data.seq #[] }) ::
  (nat_lit 226, { cls := Value.type "tuple", data := Data.seq #[Value.str "self" 482, Value.str "marks" 483] }) ::
  (nat_lit 227, { cls := Value.type "tuple", data := Data.seq #[] }) ::
  (nat_lit 229, { cls := Value.type "code", data := Data.fields #[Value.str "shows" 479, Value.str "Nothing.shows" 480, Value.str "/claim/cut.py" 481, Value.int 113 0, Value.int 2 0, Value.int 0 0, Value.int 0 0, Value.int 3 0, Value.ref 224, Value.bool true, Value.int 181 0, Value.ref 225, Value.none, Value.ref 226, Value.ref 227, Value.ref 228, Value.int 484 0, Value.int 113 0, Value.str "/claim/cut.py" 485] }) ::
  (nat_lit 230, { cls := Value.type "function", data := Data.func { name := "shows", qualname := "Nothing.shows", params := { posonlyargs := [], args := [{ arg := "self", annotation := none, pos := { line := 113, col := 14, endLine := 113, endCol := 18 } }, { arg := "marks", annotation := none, pos := { line := 113, col := 20, endLine := 113, endCol := 25 } }], vararg := none, kwonlyargs := [], kw_defaults := [], kwarg := none, defaults := [] }, body := FuncBody.stmts [Stmt.Return (some (Expr.BoolOp BoolOp.And [((Expr.Name "cases" { line := 114, col := 15, endLine := 114, endCol := 20 }).Call [Expr.Name "marks" { line := 114, col := 21, endLine := 114, endCol := 26 }] [] { line := 114, col := 15, endLine := 114, endCol := 27 }).Compare [CmpOp.Eq] [Expr.Constant (Const.int 1) 0 { line := 114, col := 31, endLine := 114, endCol := 32 }] { line := 114, col := 15, endLine := 114, endCol := 32 }, (Expr.Name "may_all_be_good" { line := 114, col := 37, endLine := 114, endCol := 52 }).Call [Expr.Name "marks" { line := 114, col := 53, endLine := 114, endCol := 58 }] [] { line := 114, col := 37, endLine := 114, endCol := 59 }] { line := 114, col := 15, endLine := 114, endCol := 59 })) { line := 114, col := 8, endLine := 114, endCol := 59 }], scope := { kind := ScopeKind.function, names := [("self", NameKind.local), ("marks", NameKind.local), ("cases", NameKind.globalImplicit), ("may_all_be_good", NameKind.globalImplicit)], isGenerator := false, isCoroutine := false }, globals := 3, closure := [], defaults := Value.none, kwdefaults := Value.none, pyModule := Value.str "oddcoin.answers" 370, code := Value.ref 229 } }) ::
  (nat_lit 231, { cls := Value.type "tuple", data := Data.seq #[] }) ::
  (nat_lit 232, { cls := Value.type "dict", data := Data.dict #[kd P "__module__" 474 (Value.str "oddcoin.answers" 370), kd P "__firstlineno__" 478 (Value.int 111 477), kd P "shows" 486 (Value.ref 230), kd P "__static_attributes__" 487 (Value.ref 231), kd P "__doc__" 488 Value.none] 2 }) ::
  (nat_lit 233, { cls := Value.type "type", data := Data.cls { name := "Nothing", bases := [Value.ref 160], mro := [Value.ref 233, Value.ref 160, Value.type "object"], ns := 232, qualname := "Nothing" }, slots := #[some (Value.ref 217), none, some (Value.str "Nothing" 467), some (Value.str "Nothing" 475), some (Value.builtin "object.__new__"), some (Value.bool true)] }) ::
  (nat_lit 236, { cls := Value.type "tuple", data := Data.seq #[Value.ref 160] }) ::
  (nat_lit 243, { cls := Value.type "tuple", data := Data.seq #[] }) ::
  (nat_lit 245, { cls := Value.type "tuple", data := Data.seq #[Value.str "self" 506, Value.str "left" 507, Value.str "right" 508, Value.str "many" 509] }) ::
  (nat_lit 246, { cls := Value.type "tuple", data := Data.seq #[] }) ::
  (nat_lit 248, { cls := Value.type "code", data := Data.fields #[Value.str "__init__" 503, Value.str "Open.__init__" 504, Value.str "/claim/cut.py" 505, Value.int 117 0, Value.int 4 0, Value.int 0 0, Value.int 0 0, Value.int 3 0, Value.ref 243, Value.bool true, Value.int 181 0, Value.ref 244, Value.none, Value.ref 245, Value.ref 246, Value.ref 247, Value.int 510 0, Value.int 117 0, Value.str "/claim/cut.py" 511] }) ::
  (nat_lit 249, { cls := Value.type "function", data := Data.func { name := "__init__", qualname := "Open.__init__", params := { posonlyargs := [], args := [{ arg := "self", annotation := none, pos := { line := 117, col := 17, endLine := 117, endCol := 21 } }, { arg := "left", annotation := none, pos := { line := 117, col := 23, endLine := 117, endCol := 27 } }, { arg := "right", annotation := none, pos := { line := 117, col := 29, endLine := 117, endCol := 34 } }, { arg := "many", annotation := none, pos := { line := 117, col := 36, endLine := 117, endCol := 40 } }], vararg := none, kwonlyargs := [], kw_defaults := [], kwarg := none, defaults := [] }, body := FuncBody.stmts [Stmt.Assign [(Expr.Name "self" { line := 118, col := 8, endLine := 118, endCol := 12 }).Attribute "left" { line := 118, col := 8, endLine := 118, endCol := 17 }] ((Expr.Name "list" { line := 118, col := 20, endLine := 118, endCol := 24 }).Call [Expr.Name "left" { line := 118, col := 25, endLine := 118, endCol := 29 }] [] { line := 118, col := 20, endLine := 118, endCol := 30 }) { line := 118, col := 8, endLine := 118, endCol := 30 }, Stmt.Assign [(Expr.Name "self" { line := 119, col := 8, endLine := 119, endCol := 12 }).Attribute "right" { line := 119, col := 8, endLine := 119, endCol := 18 }] ((Expr.Name "list" { line := 119, col := 21, endLine := 119, endCol := 25 }).Call [Expr.Name "right" { line := 119, col := 26, endLine := 119, endCol := 31 }] [] { line := 119, col := 21, endLine := 119, endCol := 32 }) { line := 119, col := 8, endLine := 119, endCol := 32 }, Stmt.Assign [(Expr.Name "self" { line := 120, col := 8, endLine := 120, endCol := 12 }).Attribute "many" { line := 120, col := 8, endLine := 120, endCol := 17 }] (Expr.Name "many" { line := 120, col := 20, endLine := 120, endCol := 24 }) { line := 120, col := 8, endLine := 120, endCol := 24 }], scope := { kind := ScopeKind.function, names := [("self", NameKind.local), ("left", NameKind.local), ("right", NameKind.local), ("many", NameKind.local), ("list", NameKind.globalImplicit)], isGenerator := false, isCoroutine := false }, globals := 3, closure := [], defaults := Value.none, kwdefaults := Value.none, pyModule := Value.str "oddcoin.answers" 370, code := Value.ref 248 } }) ::
  (nat_lit 250, { cls := Value.type "tuple", data := Data.seq #[] }) ::
  (nat_lit 252, { cls := Value.type "tuple", data := Data.seq #[Value.str "self" 516, Value.str "marks" 517, Value.str "counts" 518] }) ::
  (nat_lit 253, { cls := Value.type "tuple", data := Data.seq #[] }) ::
  (nat_lit 255, { cls := Value.type "code", data := Data.fields #[Value.str "shows" 513, Value.str "Open.shows" 514, Value.str "/claim/cut.py" 515, Value.int 122 0, Value.int 2 0, Value.int 0 0, Value.int 0 0, Value.int 3 0, Value.ref 250, Value.bool true, Value.int 181 0, Value.ref 251, Value.none, Value.ref 252, Value.ref 253, Value.ref 254, Value.int 519 0, Value.int 122 0, Value.str "/claim/cut.py" 520] }) ::
  (nat_lit 256, { cls := Value.type "function", data := Data.func { name := "shows", qualname := "Open.shows", params := { posonlyargs := [], args := [{ arg := "self", annotation := none, pos := { line := 122, col := 14, endLine := 122, endCol := 18 } }, { arg := "marks", annotation := none, pos := { line := 122, col := 20, endLine := 122, endCol := 25 } }], vararg := none, kwonlyargs := [], kw_defaults := [], kwarg := none, defaults := [] }, body := FuncBody.stmts [Stmt.If (Expr.BoolOp BoolOp.Or [((Expr.Name "cases" { line := 123, col := 11, endLine := 123, endCol := 16 }).Call [Expr.Name "marks" { line := 123, col := 17, endLine := 123, endCol := 22 }] [] { line := 123, col := 11, endLine := 123, endCol := 23 }).Compare [CmpOp.Eq] [Expr.Constant (Const.int 1) 0 { line := 123, col := 27, endLine := 123, endCol := 28 }] { line := 123, col := 11, endLine := 123, endCol := 28 }, Expr.UnaryOp UnaryOp.Not ((Expr.Name "is_whole" { line := 123, col := 36, endLine := 123, endCol := 44 }).Call [(Expr.Name "self" { line := 123, col := 45, endLine := 123, endCol := 49 }).Attribute "many" { line := 123, col := 45, endLine := 123, endCol := 54 }] [] { line := 123, col := 36, endLine := 123, endCol := 55 }) { line := 123, col := 32, endLine := 123, endCol := 55 }, ((Expr.Name "self" { line := 123, col := 59, endLine := 123, endCol := 63 }).Attribute "many" { line := 123, col := 59, endLine := 123, endCol := 68 }).Compare [CmpOp.NotEq] [(Expr.Name "fewest" { line := 123, col := 72, endLine := 123, endCol := 78 }).Call [Expr.Name "marks" { line := 123, col := 79, endLine := 123, endCol := 84 }] [] { line := 123, col := 72, endLine := 123, endCol := 85 }] { line := 123, col := 59, endLine := 123, endCol := 85 }] { line := 123, col := 11, endLine := 123, endCol := 85 }) [Stmt.Return (some (Expr.Constant (Const.bool false) 0 { line := 124, col := 19, endLine := 124, endCol := 24 })) { line := 124, col := 12, endLine := 124, endCol := 24 }] [] { line := 123, col := 8, endLine := 124, endCol := 24 }, Stmt.Try [Stmt.Assign [Expr.Name "counts" { line := 126, col := 12, endLine := 126, endCol := 18 }] ((Expr.Name "judged" { line := 126, col := 21, endLine := 126, endCol := 27 }).Call [Expr.Name "marks" { line := 126, col := 28, endLine := 126, endCol := 33 }, (Expr.Name "self" { line := 126, col := 35, endLine := 126, endCol := 39 }).Attribute "left" { line := 126, col := 35, endLine := 126, endCol := 44 }, (Expr.Name "self" { line := 126, col := 46, endLine := 126, endCol := 50 }).Attribute "right" { line := 126, col := 46, endLine := 126, endCol := 56 }] [] { line := 126, col := 21, endLine := 126, endCol := 57 }) { line := 126, col := 12, endLine := 126, endCol := 57 }] [ExceptHandler.ExceptHandler (some (Expr.Name "BadWeighing" { line := 127, col := 15, endLine := 127, endCol := 26 })) none [Stmt.Return (some (Expr.Constant (Const.bool false) 0 { line := 128, col := 19, endLine := 128, endCol := 24 })) { line := 128, col := 12, endLine := 128, endCol := 24 }] { line := 127, col := 8, endLine := 128, endCol := 24 }] [] [] { line := 125, col := 8, endLine := 128, endCol := 24 }, Stmt.Return (some (((Expr.Name "max" { line := 129, col := 15, endLine := 129, endCol := 18 }).Call [Expr.Name "counts" { line := 129, col := 19, endLine := 129, endCol := 25 }] [] { line := 129, col := 15, endLine := 129, endCol := 26 }).Compare [CmpOp.LtE] [(Expr.Name "most_cases" { line := 129, col := 30, endLine := 129, endCol := 40 }).Call [((Expr.Name "self" { line := 129, col := 41, endLine := 129, endCol := 45 }).Attribute "many" { line := 129, col := 41, endLine := 129, endCol := 50 }).BinOp Operator.Sub (Expr.Constant (Const.int 1) 0 { line := 129, col := 53, endLine := 129, endCol := 54 }) { line := 129, col := 41, endLine := 129, endCol := 54 }] [] { line := 129, col := 30, endLine := 129, endCol := 55 }] { line := 129, col := 15, endLine := 129, endCol := 55 })) { line := 129, col := 8, endLine := 129, endCol := 55 }], scope := { kind := ScopeKind.function, names := [("self", NameKind.local), ("marks", NameKind.local), ("counts", NameKind.local), ("cases", NameKind.globalImplicit), ("is_whole", NameKind.globalImplicit), ("fewest", NameKind.globalImplicit), ("judged", NameKind.globalImplicit), ("BadWeighing", NameKind.globalImplicit), ("max", NameKind.globalImplicit), ("most_cases", NameKind.globalImplicit)], isGenerator := false, isCoroutine := false }, globals := 3, closure := [], defaults := Value.none, kwdefaults := Value.none, pyModule := Value.str "oddcoin.answers" 370, code := Value.ref 255 } }) ::
  (nat_lit 257, { cls := Value.type "tuple", data := Data.seq #[Value.str "left" 522, Value.str "many" 523, Value.str "right" 524] }) ::
  (nat_lit 258, { cls := Value.type "dict", data := Data.dict #[kd P "__module__" 498 (Value.str "oddcoin.answers" 370), kd P "__firstlineno__" 502 (Value.int 115 501), kd P "__init__" 512 (Value.ref 249), kd P "shows" 521 (Value.ref 256), kd P "__static_attributes__" 525 (Value.ref 257), kd P "__doc__" 526 Value.none] 2 }) ::
  (nat_lit 259, { cls := Value.type "type", data := Data.cls { name := "Open", bases := [Value.ref 160], mro := [Value.ref 259, Value.ref 160, Value.type "object"], ns := 258, qualname := "Open" }, slots := #[some (Value.ref 236), none, some (Value.str "Open" 491), some (Value.str "Open" 499), some (Value.builtin "object.__new__"), some (Value.bool true)] }) ::
  (nat_lit 262, { cls := Value.type "tuple", data := Data.seq #[] }) ::
  (nat_lit 265, { cls := Value.type "code", data := Data.fields #[Value.str "coins_with" 531, Value.str "coins_with" 532, Value.str "/claim/cut.py" 533, Value.int 131 0, Value.int 2 0, Value.int 0 0, Value.int 0 0, Value.int 3 0, Value.ref 262, Value.bool true, Value.int 181 0, Value.ref 263, Value.none, Value.none, Value.none, Value.ref 264, Value.int 534 0, Value.int 131 0, Value.str "/claim/cut.py" 535] }) ::
  (nat_lit 266, { cls := Value.type "function", data := Data.func { name := "coins_with", qualname := "coins_with", params := defArgs (top 29), body := .stmts (defBody (top 29)), scope := defScope (top 29), globals := 3, closure := [], defaults := Value.none, kwdefaults := Value.none, pyModule := Value.str "oddcoin.telling" 529, code := Value.ref 265 } }) ::
  (nat_lit 267, { cls := Value.type "tuple", data := Data.seq #[] }) ::
  (nat_lit 269, { cls := Value.type "tuple", data := Data.seq #[Value.str "marks" 540, Value.str "pairs" 541, Value.str "alone" 542, Value.str "sign" 543, Value.str "coins" 544, Value.str "even" 545] }) ::
  (nat_lit 270, { cls := Value.type "tuple", data := Data.seq #[] }) ::
  (nat_lit 272, { cls := Value.type "code", data := Data.fields #[Value.str "paired_first" 537, Value.str "paired_first" 538, Value.str "/claim/cut.py" 539, Value.int 133 0, Value.int 1 0, Value.int 0 0, Value.int 0 0, Value.int 3 0, Value.ref 267, Value.bool true, Value.int 181 0, Value.ref 268, Value.none, Value.ref 269, Value.ref 270, Value.ref 271, Value.int 546 0, Value.int 133 0, Value.str "/claim/cut.py" 547] }) ::
  (nat_lit 273, { cls := Value.type "function", data := Data.func { name := "paired_first", qualname := "paired_first", params := defArgs (top 30), body := .stmts (defBody (top 30)), scope := defScope (top 30), globals := 3, closure := [], defaults := Value.none, kwdefaults := Value.none, pyModule := Value.str "oddcoin.telling" 529, code := Value.ref 272 } }) ::
  (nat_lit 274, { cls := Value.type "tuple", data := Data.seq #[] }) ::
  (nat_lit 276, { cls := Value.type "tuple", data := Data.seq #[Value.str "marks" 552, Value.str "most" 553] }) ::
  (nat_lit 277, { cls := Value.type "tuple", data := Data.seq #[] }) ::
  (nat_lit 279, { cls := Value.type "code", data := Data.fields #[Value.str "kept_off" 549, Value.str "kept_off" 550, Value.str "/claim/cut.py" 551, Value.int 142 0, Value.int 2 0, Value.int 0 0, Value.int 0 0, Value.int 3 0, Value.ref 274, Value.bool true, Value.int 181 0, Value.ref 275, Value.none, Value.ref 276, Value.ref 277, Value.ref 278, Value.int 554 0, Value.int 142 0, Value.str "/claim/cut.py" 555] }) ::
  (nat_lit 280, { cls := Value.type "function", data := Data.func { name := "kept_off", qualname := "kept_off", params := defArgs (top 31), body := .stmts (defBody (top 31)), scope := defScope (top 31), globals := 3, closure := [], defaults := Value.none, kwdefaults := Value.none, pyModule := Value.str "oddcoin.telling" 529, code := Value.ref 279 } }) ::
  (nat_lit 281, { cls := Value.type "tuple", data := Data.seq #[] }) ::
  (nat_lit 283, { cls := Value.type "tuple", data := Data.seq #[Value.str "marks" 560, Value.str "many" 561, Value.str "coins" 562, Value.str "on" 563, Value.str "left" 564, Value.str "right" 565] }) ::
  (nat_lit 284, { cls := Value.type "tuple", data := Data.seq #[] }) ::
  (nat_lit 286, { cls := Value.type "code", data := Data.fields #[Value.str "first_weighing" 557, Value.str "first_weighing" 558, Value.str "/claim/cut.py" 559, Value.int 144 0, Value.int 2 0, Value.int 0 0, Value.int 0 0, Value.int 3 0, Value.ref 281, Value.bool true, Value.int 181 0, Value.ref 282, Value.none, Value.ref 283, Value.ref 284, Value.ref 285, Value.int 566 0, Value.int 144 0, Value.str "/claim/cut.py" 567] }) ::
  (nat_lit 287, { cls := Value.type "function", data := Data.func { name := "first_weighing", qualname := "first_weighing", params := defArgs (top 32), body := .stmts (defBody (top 32)), scope := defScope (top 32), globals := 3, closure := [], defaults := Value.none, kwdefaults := Value.none, pyModule := Value.str "oddcoin.telling" 529, code := Value.ref 286 } }) ::
  (nat_lit 288, { cls := Value.type "tuple", data := Data.seq #[] }) ::
  (nat_lit 290, { cls := Value.type "tuple", data := Data.seq #[Value.str "marks" 572, Value.str "many" 573] }) ::
  (nat_lit 291, { cls := Value.type "tuple", data := Data.seq #[] }) ::
  (nat_lit 293, { cls := Value.type "code", data := Data.fields #[Value.str "told" 569, Value.str "told" 570, Value.str "/claim/cut.py" 571, Value.int 152 0, Value.int 1 0, Value.int 0 0, Value.int 0 0, Value.int 3 0, Value.ref 288, Value.bool true, Value.int 181 0, Value.ref 289, Value.none, Value.ref 290, Value.ref 291, Value.ref 292, Value.int 574 0, Value.int 152 0, Value.str "/claim/cut.py" 575] }) ::
  (nat_lit 294, { cls := Value.type "function", data := Data.func { name := "told", qualname := "told", params := defArgs (top 33), body := .stmts (defBody (top 33)), scope := defScope (top 33), globals := 3, closure := [], defaults := Value.none, kwdefaults := Value.none, pyModule := Value.str "oddcoin.telling" 529, code := Value.ref 293 } }) ::
  (nat_lit 295, { cls := Value.type "tuple", data := Data.seq #[] }) ::
  (nat_lit 297, { cls := Value.type "tuple", data := Data.seq #[Value.str "_law_script" 582, Value.str "_law_k" 583] }) ::
  (nat_lit 298, { cls := Value.type "tuple", data := Data.seq #[] }) ::
  (nat_lit 300, { cls := Value.type "code", data := Data.fields #[Value.str "_law_cell_at" 579, Value.str "_law_cell_at" 580, Value.str "/claim/cut.py" 581, Value.int 162 0, Value.int 2 0, Value.int 0 0, Value.int 0 0, Value.int 3 0, Value.ref 295, Value.bool true, Value.int 181 0, Value.ref 296, Value.none, Value.ref 297, Value.ref 298, Value.ref 299, Value.int 584 0, Value.int 162 0, Value.str "/claim/cut.py" 585] }) ::
  (nat_lit 301, { cls := Value.type "function", data := Data.func { name := "_law_cell_at", qualname := "_law_cell_at", params := defArgs (top 35), body := .stmts (defBody (top 35)), scope := defScope (top 35), globals := 3, closure := [], defaults := Value.none, kwdefaults := Value.none, pyModule := Value.str "law_oddcoin_k01_whole_told" 577, code := Value.ref 300 } }) ::
  (nat_lit 302, { cls := Value.type "tuple", data := Data.seq #[] }) ::
  (nat_lit 304, { cls := Value.type "tuple", data := Data.seq #[Value.str "_law_cell" 590, Value.str "_law_k" 591, Value.str "_law_many" 592, Value.str "_law_primes" 593] }) ::
  (nat_lit 305, { cls := Value.type "tuple", data := Data.seq #[] }) ::
  (nat_lit 307, { cls := Value.type "code", data := Data.fields #[Value.str "_law_draw" 587, Value.str "_law_draw" 588, Value.str "/claim/cut.py" 589, Value.int 166 0, Value.int 3 0, Value.int 0 0, Value.int 0 0, Value.int 3 0, Value.ref 302, Value.bool true, Value.int 181 0, Value.ref 303, Value.none, Value.ref 304, Value.ref 305, Value.ref 306, Value.int 594 0, Value.int 166 0, Value.str "/claim/cut.py" 595] }) ::
  (nat_lit 308, { cls := Value.type "function", data := Data.func { name := "_law_draw", qualname := "_law_draw", params := defArgs (top 36), body := .stmts (defBody (top 36)), scope := defScope (top 36), globals := 3, closure := [], defaults := Value.none, kwdefaults := Value.none, pyModule := Value.str "law_oddcoin_k01_whole_told" 577, code := Value.ref 307 } }) ::
  (nat_lit 309, { cls := Value.type "tuple", data := Data.seq #[] }) ::
  (nat_lit 312, { cls := Value.type "code", data := Data.fields #[Value.str "_law_marks" 597, Value.str "_law_marks" 598, Value.str "/claim/cut.py" 599, Value.int 169 0, Value.int 1 0, Value.int 0 0, Value.int 0 0, Value.int 3 0, Value.ref 309, Value.bool true, Value.int 181 0, Value.ref 310, Value.none, Value.none, Value.none, Value.ref 311, Value.int 600 0, Value.int 169 0, Value.str "/claim/cut.py" 601] }) ::
  (nat_lit 313, { cls := Value.type "function", data := Data.func { name := "_law_marks", qualname := "_law_marks", params := defArgs (top 37), body := .stmts (defBody (top 37)), scope := defScope (top 37), globals := 3, closure := [], defaults := Value.none, kwdefaults := Value.none, pyModule := Value.str "law_oddcoin_k01_whole_told" 577, code := Value.ref 312 } }) ::
  (nat_lit 314, { cls := Value.type "tuple", data := Data.seq #[] }) ::
  (nat_lit 316, { cls := Value.type "tuple", data := Data.seq #[Value.str "_law_marks_here" 606, Value.str "_law_many" 607] }) ::
  (nat_lit 317, { cls := Value.type "tuple", data := Data.seq #[] }) ::
  (nat_lit 319, { cls := Value.type "code", data := Data.fields #[Value.str "_law_cases" 603, Value.str "_law_cases" 604, Value.str "/claim/cut.py" 605, Value.int 173 0, Value.int 1 0, Value.int 0 0, Value.int 0 0, Value.int 3 0, Value.ref 314, Value.bool true, Value.int 181 0, Value.ref 315, Value.none, Value.ref 316, Value.ref 317, Value.ref 318, Value.int 608 0, Value.int 173 0, Value.str "/claim/cut.py" 609] }) ::
  (nat_lit 320, { cls := Value.type "function", data := Data.func { name := "_law_cases", qualname := "_law_cases", params := defArgs (top 38), body := .stmts (defBody (top 38)), scope := defScope (top 38), globals := 3, closure := [], defaults := Value.none, kwdefaults := Value.none, pyModule := Value.str "law_oddcoin_k01_whole_told" 577, code := Value.ref 319 } }) ::
  (nat_lit 321, { cls := Value.type "tuple", data := Data.seq #[] }) ::
  (nat_lit 324, { cls := Value.type "code", data := Data.fields #[Value.str "_law_weighing" 611, Value.str "_law_weighing" 612, Value.str "/claim/cut.py" 613, Value.int 176 0, Value.int 3 0, Value.int 0 0, Value.int 0 0, Value.int 3 0, Value.ref 321, Value.bool true, Value.int 181 0, Value.ref 322, Value.none, Value.none, Value.none, Value.ref 323, Value.int 614 0, Value.int 176 0, Value.str "/claim/cut.py" 615] }) ::
  (nat_lit 325, { cls := Value.type "function", data := Data.func { name := "_law_weighing", qualname := "_law_weighing", params := defArgs (top 39), body := .stmts (defBody (top 39)), scope := defScope (top 39), globals := 3, closure := [], defaults := Value.none, kwdefaults := Value.none, pyModule := Value.str "law_oddcoin_k01_whole_told" 577, code := Value.ref 324 } }) ::
  (nat_lit 326, { cls := Value.type "tuple", data := Data.seq #[] }) ::
  (nat_lit 328, { cls := Value.type "tuple", data := Data.seq #[Value.str "_law_marks_here" 620, Value.str "_law_left_here" 621, Value.str "_law_right_here" 622, Value.str "_law_outcome" 623, Value.str "_law_found" 624, Value.str "_law_coin" 625, Value.str "_law_sign" 626, Value.str "_law_side" 627] }) ::
  (nat_lit 329, { cls := Value.type "tuple", data := Data.seq #[] }) ::
  (nat_lit 331, { cls := Value.type "code", data := Data.fields #[Value.str "_law_behind" 617, Value.str "_law_behind" 618, Value.str "/claim/cut.py" 619, Value.int 181 0, Value.int 4 0, Value.int 0 0, Value.int 0 0, Value.int 3 0, Value.ref 326, Value.bool true, Value.int 181 0, Value.ref 327, Value.none, Value.ref 328, Value.ref 329, Value.ref 330, Value.int 628 0, Value.int 181 0, Value.str "/claim/cut.py" 629] }) ::
  (nat_lit 332, { cls := Value.type "function", data := Data.func { name := "_law_behind", qualname := "_law_behind", params := defArgs (top 40), body := .stmts (defBody (top 40)), scope := defScope (top 40), globals := 3, closure := [], defaults := Value.none, kwdefaults := Value.none, pyModule := Value.str "law_oddcoin_k01_whole_told" 577, code := Value.ref 331 } }) ::
  (nat_lit 333, { cls := Value.type "tuple", data := Data.seq #[] }) ::
  (nat_lit 335, { cls := Value.type "tuple", data := Data.seq #[Value.str "_law_marks_here" 634, Value.str "_law_left_here" 635, Value.str "_law_right_here" 636, Value.str "_law_found" 637, Value.str "_law_outcome" 638, Value.str "_law_after" 639, Value.str "_law_many" 640] }) ::
  (nat_lit 336, { cls := Value.type "tuple", data := Data.seq #[] }) ::
  (nat_lit 338, { cls := Value.type "code", data := Data.fields #[Value.str "_law_left" 631, Value.str "_law_left" 632, Value.str "/claim/cut.py" 633, Value.int 194 0, Value.int 3 0, Value.int 0 0, Value.int 0 0, Value.int 3 0, Value.ref 333, Value.bool true, Value.int 181 0, Value.ref 334, Value.none, Value.ref 335, Value.ref 336, Value.ref 337, Value.int 641 0, Value.int 194 0, Value.str "/claim/cut.py" 642] }) ::
  (nat_lit 339, { cls := Value.type "function", data := Data.func { name := "_law_left", qualname := "_law_left", params := defArgs (top 41), body := .stmts (defBody (top 41)), scope := defScope (top 41), globals := 3, closure := [], defaults := Value.none, kwdefaults := Value.none, pyModule := Value.str "law_oddcoin_k01_whole_told" 577, code := Value.ref 338 } }) ::
  (nat_lit 340, { cls := Value.type "tuple", data := Data.seq #[] }) ::
  (nat_lit 342, { cls := Value.type "tuple", data := Data.seq #[Value.str "_law_many" 647, Value.str "_law_found" 648, Value.str "_law_turn" 649] }) ::
  (nat_lit 343, { cls := Value.type "tuple", data := Data.seq #[] }) ::
  (nat_lit 345, { cls := Value.type "code", data := Data.fields #[Value.str "_law_power" 644, Value.str "_law_power" 645, Value.str "/claim/cut.py" 646, Value.int 203 0, Value.int 1 0, Value.int 0 0, Value.int 0 0, Value.int 3 0, Value.ref 340, Value.bool true, Value.int 181 0, Value.ref 341, Value.none, Value.ref 342, Value.ref 343, Value.ref 344, Value.int 650 0, Value.int 203 0, Value.str "/claim/cut.py" 651] }) ::
  (nat_lit 346, { cls := Value.type "function", data := Data.func { name := "_law_power", qualname := "_law_power", params := defArgs (top 42), body := .stmts (defBody (top 42)), scope := defScope (top 42), globals := 3, closure := [], defaults := Value.none, kwdefaults := Value.none, pyModule := Value.str "law_oddcoin_k01_whole_told" 577, code := Value.ref 345 } }) ::
  (nat_lit 347, { cls := Value.type "tuple", data := Data.seq #[] }) ::
  (nat_lit 349, { cls := Value.type "tuple", data := Data.seq #[Value.str "_law_number" 656] }) ::
  (nat_lit 350, { cls := Value.type "tuple", data := Data.seq #[] }) ::
  (nat_lit 352, { cls := Value.type "code", data := Data.fields #[Value.str "_law_whole" 653, Value.str "_law_whole" 654, Value.str "/claim/cut.py" 655, Value.int 208 0, Value.int 1 0, Value.int 0 0, Value.int 0 0, Value.int 3 0, Value.ref 347, Value.bool true, Value.int 181 0, Value.ref 348, Value.none, Value.ref 349, Value.ref 350, Value.ref 351, Value.int 657 0, Value.int 208 0, Value.str "/claim/cut.py" 658] }) ::
  (nat_lit 353, { cls := Value.type "function", data := Data.func { name := "_law_whole", qualname := "_law_whole", params := defArgs (top 43), body := .stmts (defBody (top 43)), scope := defScope (top 43), globals := 3, closure := [], defaults := Value.none, kwdefaults := Value.none, pyModule := Value.str "law_oddcoin_k01_whole_told" 577, code := Value.ref 352 } }) ::
  (nat_lit 354, { cls := Value.type "tuple", data := Data.seq #[] }) ::
  (nat_lit 356, { cls := Value.type "tuple", data := Data.seq #[Value.str "_law_marks_here" 663, Value.str "_law_left_here" 664, Value.str "_law_right_here" 665, Value.str "_law_many" 666, Value.str "_law_whole_here" 667] }) ::
  (nat_lit 357, { cls := Value.type "tuple", data := Data.seq #[] }) ::
  (nat_lit 359, { cls := Value.type "code", data := Data.fields #[Value.str "_law_open" 660, Value.str "_law_open" 661, Value.str "/claim/cut.py" 662, Value.int 210 0, Value.int 4 0, Value.int 0 0, Value.int 0 0, Value.int 3 0, Value.ref 354, Value.bool true, Value.int 181 0, Value.ref 355, Value.none, Value.ref 356, Value.ref 357, Value.ref 358, Value.int 668 0, Value.int 210 0, Value.str "/claim/cut.py" 669] }) ::
  (nat_lit 360, { cls := Value.type "function", data := Data.func { name := "_law_open", qualname := "_law_open", params := defArgs (top 44), body := .stmts (defBody (top 44)), scope := defScope (top 44), globals := 3, closure := [], defaults := Value.none, kwdefaults := Value.none, pyModule := Value.str "law_oddcoin_k01_whole_told" 577, code := Value.ref 359 } }) ::
  (nat_lit 361, { cls := Value.type "tuple", data := Data.seq #[] }) ::
  (nat_lit 363, { cls := Value.type "tuple", data := Data.seq #[Value.str "_law_marks_here" 674, Value.str "_law_found" 675, Value.str "_law_sign" 676] }) ::
  (nat_lit 364, { cls := Value.type "tuple", data := Data.seq #[] }) ::
  (nat_lit 366, { cls := Value.type "code", data := Data.fields #[Value.str "_law_due" 671, Value.str "_law_due" 672, Value.str "/claim/cut.py" 673, Value.int 217 0, Value.int 2 0, Value.int 0 0, Value.int 0 0, Value.int 3 0, Value.ref 361, Value.bool true, Value.int 181 0, Value.ref 362, Value.none, Value.ref 363, Value.ref 364, Value.ref 365, Value.int 677 0, Value.int 217 0, Value.str "/claim/cut.py" 678] }) ::
  (nat_lit 367, { cls := Value.type "function", data := Data.func { name := "_law_due", qualname := "_law_due", params := defArgs (top 45), body := .stmts (defBody (top 45)), scope := defScope (top 45), globals := 3, closure := [], defaults := Value.none, kwdefaults := Value.none, pyModule := Value.str "law_oddcoin_k01_whole_told" 577, code := Value.ref 366 } }) ::
  (nat_lit 368, { cls := Value.type "tuple", data := Data.seq #[] }) ::
  (nat_lit 371, { cls := Value.type "code", data := Data.fields #[Value.str "_law_right" 680, Value.str "_law_right" 681, Value.str "/claim/cut.py" 682, Value.int 226 0, Value.int 1 0, Value.int 0 0, Value.int 0 0, Value.int 3 0, Value.ref 368, Value.bool true, Value.int 181 0, Value.ref 369, Value.none, Value.none, Value.none, Value.ref 370, Value.int 683 0, Value.int 226 0, Value.str "/claim/cut.py" 684] }) ::
  (nat_lit 372, { cls := Value.type "function", data := Data.func { name := "_law_right", qualname := "_law_right", params := defArgs (top 46), body := .stmts (defBody (top 46)), scope := defScope (top 46), globals := 3, closure := [], defaults := Value.none, kwdefaults := Value.none, pyModule := Value.str "law_oddcoin_k01_whole_told" 577, code := Value.ref 371 } }) ::
  (nat_lit 373, { cls := Value.type "tuple", data := Data.seq #[] }) ::
  (nat_lit 375, { cls := Value.type "tuple", data := Data.seq #[Value.str "_law_script" 689, Value.str "_law_marks_here" 690, Value.str "_law_some" 691, Value.str "_law_at" 692] }) ::
  (nat_lit 376, { cls := Value.type "tuple", data := Data.seq #[] }) ::
  (nat_lit 378, { cls := Value.type "code", data := Data.fields #[Value.str "law" 686, Value.str "law" 687, Value.str "/claim/cut.py" 688, Value.int 243 0, Value.int 1 0, Value.int 0 0, Value.int 0 0, Value.int 3 0, Value.ref 373, Value.bool true, Value.int 181 0, Value.ref 374, Value.none, Value.ref 375, Value.ref 376, Value.ref 377, Value.int 693 0, Value.int 243 0, Value.str "/claim/cut.py" 694] }) ::
  (nat_lit 379, { cls := Value.type "function", data := Data.func { name := "law", qualname := "law", params := defArgs (top 47), body := .stmts (defBody (top 47)), scope := defScope (top 47), globals := 3, closure := [], defaults := Value.none, kwdefaults := Value.none, pyModule := Value.str "law_oddcoin_k01_whole_told" 577, code := Value.ref 378 } }) :: []
def keysK : List Addr := [2, 3, 15, 22, 23, 24, 25, 28, 35, 36, 37, 40, 47, 48, 49, 52, 54, 55, 57, 58, 59, 61, 62, 64, 65, 66, 68, 69, 71, 72, 73, 75, 76, 78, 79, 80, 82, 83, 85, 86, 87, 89, 90, 92, 93, 94, 96, 97, 99, 100, 101, 102, 104, 105, 107, 108, 109, 111, 112, 114, 115, 116, 118, 119, 121, 122, 123, 125, 126, 128, 129, 130, 132, 133, 135, 136, 137, 139, 140, 142, 143, 144, 146, 147, 149, 150, 158, 159, 160, 161, 162, 165, 172, 174, 175, 177, 178, 179, 181, 182, 184, 185, 186, 187, 188, 191, 198, 200, 201, 203, 204, 205, 207, 208, 210, 211, 212, 213, 214, 217, 224, 226, 227, 229, 230, 231, 232, 233, 236, 243, 245, 246, 248, 249, 250, 252, 253, 255, 256, 257, 258, 259, 262, 265, 266, 267, 269, 270, 272, 273, 274, 276, 277, 279, 280, 281, 283, 284, 286, 287, 288, 290, 291, 293, 294, 295, 297, 298, 300, 301, 302, 304, 305, 307, 308, 309, 312, 313, 314, 316, 317, 319, 320, 321, 324, 325, 326, 328, 329, 331, 332, 333, 335, 336, 338, 339, 340, 342, 343, 345, 346, 347, 349, 350, 352, 353, 354, 356, 357, 359, 360, 361, 363, 364, 366, 367, 368, 371, 372, 373, 375, 376, 378, 379]
def view : Program := { PySem.Challenge.pw_oddcoin_k01_whole_told with main := { PySem.Challenge.pw_oddcoin_k01_whole_told.main with body := [top 1, top 2, top 3, top 5, top 6, top 7, top 8, top 10, top 11, top 12, top 14, top 15, top 16, top 17, top 18, top 19, top 20, top 22, top 23, top 24, top 25, top 26, top 27, top 29, top 30, top 31, top 32, top 33, top 35, top 36, top 37, top 38, top 39, top 40, top 41, top 42, top 43, top 44, top 45, top 46, top 47] } }
theorem keysK_is : ∀ P, keysK = (KK P).map (·.1) := fun _ => by kernel_rfl
end Ks
namespace Ks
open PySem L2 PySem.W PyProof.Rows
theorem left_of {p q : Program} {loose : List Str} {Xt : Shared → Bool} {α : Type} {Yf : Shared → α} {Ya : World → α} {N : Nat} {g0 : Bool} (row : String)
    (op : ∀ w : World, (fencedOpening treeTable p w N).map (fun s => (s.heap, s.gens, s.drawn, s.toks)) = some (boot_heap w.params, Array.mk [], boot_drawn, boot_toks))
    (h0 : ∀ (w : World) (os : OsState), (topFrom treeTable p (w.withFollow row false) N ⟨boot_heap (w.withFollow row false).params, Array.mk [], boot_drawn, boot_toks, os⟩).map (fun s => (openSeen q loose (importedModules p.main.body) Xt g0 s, Yf s)) = some (openGood q loose, Ya (w.withFollow row false)))
    (h1 : ∀ (w : World) (os : OsState), (topFrom treeTable p (w.withFollow row true) N ⟨boot_heap (w.withFollow row true).params, Array.mk [], boot_drawn, boot_toks, os⟩).map (fun s => (openSeen q loose (importedModules p.main.body) Xt g0 s, Yf s)) = some (openGood q loose, Ya (w.withFollow row true))) : LeftO p q loose Xt Yf Ya N g0 := by
  have go : ∀ w : World, (∀ os, (topFrom treeTable p w N ⟨boot_heap w.params, Array.mk [], boot_drawn, boot_toks, os⟩).map (fun s => (openSeen q loose (importedModules p.main.body) Xt g0 s, Yf s)) = some (openGood q loose, Ya w)) →
      (openEnds treeTable p w N).map (fun s => (openSeen q loose (importedModules p.main.body) Xt g0 s, Yf s)) = some (openGood q loose, Ya w) := by
    intro w h
    obtain ⟨⟨hp, gs, d, k, os⟩, e, e'⟩ := Option.map_eq_some_iff.mp (op w)
    obtain ⟨rfl, rfl, rfl, rfl⟩ : hp = boot_heap w.params ∧ gs = Array.mk [] ∧ d = boot_drawn ∧ k = boot_toks := by simpa using e'
    unfold openEnds
    rw [e]
    exact h os
  intro w
  have e := World.withFollow_self w row
  cases hb : w.params.followText row <;> rw [hb] at e
  · have := go _ (h0 w)
    rw [e] at this
    exact this
  · have := go _ (h1 w)
    rw [e] at this
    exact this
end Ks
namespace Ks
open PySem L2 PySem.W PyProof.Rows
theorem left_false : ∀ (w : World) (os : OsState), (topFrom treeTable PySem.Challenge.pw_oddcoin_k01_whole_told (w.withFollow "special-get-raises" false) 6092 ⟨boot_heap (w.withFollow "special-get-raises" false).params, Array.mk [], boot_drawn, boot_toks, os⟩).map (fun s => (openSeen view ["OTHER"] (importedModules PySem.Challenge.pw_oddcoin_k01_whole_told.main.body) (fun s => xlAt view [] s && recOk (RowW.records (OpenRow.toRowW (PySem.Challenge.rw_oddcoin_k01_whole_told).row)) s) true s, Hook.obs (kHook KK keysK keysK_is) s)) = some (openGood view ["OTHER"], Hook.val (kHook KK keysK keysK_is) (w.withFollow "special-get-raises" false)) := by
  intro w os
  unfold topFrom
  rw [PySem.W.Fast.te14082659384304107361, PySem.W.Fast.te4187177175401517315, PySem.W.Fast.te14364793385576792824]
  kernel_rfl
theorem left_true : ∀ (w : World) (os : OsState), (topFrom treeTable PySem.Challenge.pw_oddcoin_k01_whole_told (w.withFollow "special-get-raises" true) 6092 ⟨boot_heap (w.withFollow "special-get-raises" true).params, Array.mk [], boot_drawn, boot_toks, os⟩).map (fun s => (openSeen view ["OTHER"] (importedModules PySem.Challenge.pw_oddcoin_k01_whole_told.main.body) (fun s => xlAt view [] s && recOk (RowW.records (OpenRow.toRowW (PySem.Challenge.rw_oddcoin_k01_whole_told).row)) s) true s, Hook.obs (kHook KK keysK keysK_is) s)) = some (openGood view ["OTHER"], Hook.val (kHook KK keysK keysK_is) (w.withFollow "special-get-raises" true)) := by
  intro w os
  unfold topFrom
  rw [PySem.W.Fast.te14082659384304107361, PySem.W.Fast.te4187177175401517315, PySem.W.Fast.te14364793385576792824]
  kernel_rfl
theorem boot : ∀ w : World, (fencedOpening treeTable PySem.Challenge.pw_oddcoin_k01_whole_told w 6092).map (fun s => (s.heap, s.gens, s.drawn, s.toks)) = some (boot_heap w.params, Array.mk [], boot_drawn, boot_toks) :=
  boot_open (by kernel_rfl) (by decide) (fun _ => by kernel_rfl)
theorem leftO : LeftO PySem.Challenge.pw_oddcoin_k01_whole_told view ["OTHER"] (fun s => xlAt view [] s && recOk (RowW.records (OpenRow.toRowW (PySem.Challenge.rw_oddcoin_k01_whole_told).row)) s) (Hook.obs (kHook KK keysK keysK_is)) (Hook.val (kHook KK keysK keysK_is)) 6092 :=
  left_of "special-get-raises" boot left_false left_true
end Ks
end
section
namespace SetX
open PySem
theorem getD_nat (xs : Array Nat) (i d : Nat) (h : i < xs.size) : xs.getD i d = xs[i] := by simp [Array.getD, h]
def Rise (xs : Array Nat) : Prop := ∀ a b, a < b → b < xs.size → xs.getD a 0 < xs.getD b 0
theorem rise_iff (xs : Array Nat) : Rise xs ↔ xs.toList.Pairwise (· < ·) := by
  rw [List.pairwise_iff_getElem]
  constructor
  · intro h i j hi hj hij
    have hj' : j < xs.size := by simpa using hj
    have hi' : i < xs.size := by simpa using hi
    have := h i j hij hj'
    rw [getD_nat xs i 0 hi', getD_nat xs j 0 hj'] at this
    simpa using this
  · intro h a b hab hb
    have ha : a < xs.size := by omega
    rw [getD_nat xs a 0 ha, getD_nat xs b 0 hb]
    have := h a b (by simpa using ha) (by simpa using hb) hab
    simpa using this
theorem below_go {xs : Array Nat} (R : Rise xs) (j : Nat) : ∀ (fuel lo hi : Nat), hi - lo ≤ fuel → lo ≤ hi → hi ≤ xs.size → (∀ i, i < lo → xs.getD i 0 < j) → (∀ i, hi ≤ i → i < xs.size → j ≤ xs.getD i 0) →
    let p := SetTable.below.go xs j fuel lo hi
    p ≤ xs.size ∧ (∀ i, i < p → xs.getD i 0 < j) ∧ (∀ i, p ≤ i → i < xs.size → j ≤ xs.getD i 0)
  | 0, lo, hi, h1, h2, h3, h4, h5 => by
    have e : lo = hi := by omega
    subst e
    exact ⟨h3, h4, h5⟩
  | fuel + 1, lo, hi, h1, h2, h3, h4, h5 => by
    show let p := SetTable.below.go xs j (fuel + 1) lo hi; _
    unfold SetTable.below.go
    by_cases hlt : lo < hi
    · rw [if_pos hlt]
      have hm : (lo + hi) / 2 < hi := by omega
      have hm2 : lo ≤ (lo + hi) / 2 := by omega
      have hms : (lo + hi) / 2 < xs.size := by omega
      have eg : xs.getD ((lo + hi) / 2) j = xs.getD ((lo + hi) / 2) 0 := by rw [getD_nat xs _ j hms, getD_nat xs _ 0 hms]
      dsimp only
      rw [eg]
      by_cases hc : xs.getD ((lo + hi) / 2) 0 < j
      · rw [if_pos hc]
        refine below_go R j fuel _ hi (by omega) (by omega) h3 (fun i hi' => ?_) h5
        by_cases e : i = (lo + hi) / 2
        · rw [e]; exact hc
        · exact Nat.lt_trans (R i ((lo + hi) / 2) (by omega) hms) hc
      · rw [if_neg hc]
        refine below_go R j fuel lo _ (by omega) hm2 (by omega) h4 fun i hi' hsz => ?_
        by_cases e : i = (lo + hi) / 2
        · rw [e]; omega
        · have := R ((lo + hi) / 2) i (by omega) hsz
          omega
    · rw [if_neg hlt]
      have e : lo = hi := by omega
      subst e
      exact ⟨h3, h4, h5⟩
theorem below_spec {xs : Array Nat} (R : Rise xs) (j : Nat) : SetTable.below xs j ≤ xs.size ∧ (∀ i, i < SetTable.below xs j → xs.getD i 0 < j) ∧ (∀ i, SetTable.below xs j ≤ i → i < xs.size → j ≤ xs.getD i 0) :=
  below_go R j xs.size 0 xs.size (by omega) (Nat.zero_le _) (Nat.le_refl _) (fun i h => absurd h (Nat.not_lt_zero _)) fun i h1 h2 => absurd h2 (by omega)
theorem not_live {xs : Array Nat} (R : Rise xs) {j : Nat} (h : ¬ xs[SetTable.below xs j]? = some j) : ∀ i, i < xs.size → xs.getD i 0 ≠ j := by
  intro i hi e
  obtain ⟨h1, h2, h3⟩ := below_spec R j
  by_cases c : i < SetTable.below xs j
  · have := h2 i c; omega
  · by_cases c2 : i = SetTable.below xs j
    · apply h
      rw [← c2, Array.getElem?_eq_getElem hi, ← e, getD_nat xs i 0 hi]
    · have h4 := h3 (SetTable.below xs j) (Nat.le_refl _) (by omega)
      have := R (SetTable.below xs j) i (by omega) hi
      omega
theorem insert_rise {xs : Array Nat} (R : Rise xs) {j : Nat} (hn : ∀ i, i < xs.size → xs.getD i 0 ≠ j) : Rise (SetTable.insertAt xs (SetTable.below xs j) j) := by
  rw [rise_iff, SetTable.toList_insertAt]
  obtain ⟨h1, h2, h3⟩ := below_spec R j
  have RL := (rise_iff xs).mp R
  refine List.pairwise_append.mpr ⟨RL.sublist (List.take_sublist _ _), List.pairwise_cons.mpr ⟨fun y hy => ?_, RL.sublist (List.drop_sublist _ _)⟩, fun x hx y hy => ?_⟩
  · obtain ⟨i, hi, rfl⟩ := List.mem_iff_getElem.mp hy
    rw [List.getElem_drop]
    have hi' : SetTable.below xs j + i < xs.size := by
      rw [List.length_drop] at hi; simp at hi; omega
    have a := h3 (SetTable.below xs j + i) (by omega) hi'
    have b := hn (SetTable.below xs j + i) hi'
    rw [getD_nat xs _ 0 hi'] at a b
    simp only [Array.getElem_toList]
    omega
  · have hx' : x < j := by
      obtain ⟨i, hi, rfl⟩ := List.mem_iff_getElem.mp hx
      rw [List.getElem_take]
      rw [List.length_take] at hi
      have hi1 : i < SetTable.below xs j := by omega
      have hi2 : i < xs.size := by simp at hi; omega
      have a := h2 i hi1
      rw [getD_nat xs _ 0 hi2] at a
      simpa using a
    rcases List.mem_cons.mp hy with e | hy
    · rw [e]; exact hx'
    · have hy' : j ≤ y := by
        obtain ⟨i, hi, rfl⟩ := List.mem_iff_getElem.mp hy
        rw [List.getElem_drop]
        have hi' : SetTable.below xs j + i < xs.size := by
          rw [List.length_drop] at hi; simp at hi; omega
        have a := h3 (SetTable.below xs j + i) (by omega) hi'
        rw [getD_nat xs _ 0 hi'] at a
        simpa using a
      omega
theorem probe_go {t : SetTable} {hashAt : Nat → Int} {h : Int} : ∀ (fuel : Nat) (p : SetTable.Probe) {j : Nat} {dm : Option Nat}, (∀ d, p.dummy = some d → t.slot d = .dummy) → SetTable.probe.go t hashAt h fuel p = some (.empty j dm) →
    t.slot j = .empty ∧ ∀ d, dm = some d → t.slot d = .dummy
  | 0, p, j, dm, _, e => by simp [SetTable.probe.go] at e
  | fuel + 1, p, j, dm, hd, e => by
    unfold SetTable.probe.go at e
    have adv : ∀ q : SetTable.Probe, (t.advance q).dummy = q.dummy := fun q => by unfold SetTable.advance; split <;> rfl
    cases q : t.slot p.j with
    | empty =>
      rw [q] at e
      have e' := Option.some.inj e
      injection e' with e1 e2
      subst e1 e2
      exact ⟨q, hd⟩
    | dummy =>
      rw [q] at e
      refine probe_go fuel _ (fun d z => ?_) e
      rw [adv] at z
      have z' : some p.j = some d := z
      cases z'
      exact q
    | live i =>
      rw [q] at e
      dsimp only at e
      split at e
      · cases e
      · exact probe_go fuel _ (fun d z => by rw [adv] at z; exact hd d z) e
structure TabOk (b : Bool) (t : SetTable) : Prop where
  led : t.led = b
  rise : Rise t.place
theorem range_rise (n : Nat) : Rise (Array.range n) := by
  intro a c hac hc
  simp only [Array.size_range] at hc
  rw [getD_nat _ a 0 (by simp; omega), getD_nat _ c 0 (by simpa using hc)]
  simpa using hac
theorem standIn_ok {b : Bool} {t : SetTable} (h : TabOk b t) (n : Nat) : TabOk b (t.standIn n) := ⟨h.led, range_rise n⟩
theorem orStandIn_ok {b : Bool} {t : SetTable} (h : TabOk b t) (n : Nat) : TabOk b (t.orStandIn n) := by
  unfold SetTable.orStandIn
  split
  · exact h
  · exact standIn_ok h n
theorem slot_free {t : SetTable} {j : Nat} (h : t.slot j = .empty ∨ t.slot j = .dummy) : ¬ t.place[SetTable.below t.place j]? = some j := by
  intro e
  unfold SetTable.slot at h
  simp [e] at h
theorem layNew_ok {b : Bool} {t : SetTable} (h : TabOk b t) (es : Array (Int × Value)) (k : Int) (x : Value) : TabOk b (layNew t es k x).2.1 := by
  unfold layNew
  split
  · rename_i slot wd e
    dsimp only
    refine orStandIn_ok (t := (t.put slot).1) ⟨h.led, ?_⟩ _
    show Rise (SetTable.insertAt t.place (SetTable.below t.place slot) slot)
    refine insert_rise h.rise (not_live h.rise (slot_free ?_))
    unfold SetTable.freeSlot SetTable.probe at e
    split at e
    · rename_i j dm q
      obtain ⟨h1, h2⟩ := probe_go _ _ (fun d z => by cases z) q
      have e' := Option.some.inj e
      have e1 : dm.getD j = slot := congrArg Prod.fst e'
      cases dm with
      | none => exact .inl (e1 ▸ h1)
      | some d => exact .inr (by have z : d = slot := e1; rw [← z]; exact h2 d rfl)
    · cases e
  · exact standIn_ok h _
theorem laid_ok {mask fg mv : Nat} {led plain : Bool} {hs : Array Int} {t : SetTable} {ord : Array Nat} (e : SetTable.laid mask fg mv led plain hs = some (t, ord)) : TabOk led t := by
  unfold SetTable.laid at e
  cases q : SetTable.layClean mask hs with
  | none => rw [q] at e; cases e
  | some owner =>
    rw [q] at e
    have e' := congrArg Prod.fst (Option.some.inj e)
    have e'' : ({ mask, place := (((List.range (mask + 1)).filterMap fun j => (owner.getD j none).map (j, ·)).map (·.1)).toArray, dummies := #[], finger := fg, led, moves := mv, plain } : SetTable) = t := e'
    subst e''
    refine ⟨rfl, ?_⟩
    rw [rise_iff]
    show List.Pairwise (· < ·) (((List.range (mask + 1)).filterMap fun j => (owner.getD j none).map (j, ·)).map (·.1))
    rw [List.pairwise_map]
    refine List.Pairwise.filterMap _ (fun a a' haa b hb b' hb' => ?_) (List.pairwise_lt_range)
    cases qa : owner.getD a none with
    | none => rw [qa] at hb; cases hb
    | some u =>
      rw [qa] at hb
      cases qb : owner.getD a' none with
      | none => rw [qb] at hb'; cases hb'
      | some v =>
        rw [qb] at hb'
        have z1 : (a, u) = b := Option.some.inj hb
        have z2 : (a', v) = b' := Option.some.inj hb'
        rw [← z1, ← z2]
        exact haa
theorem relayAll_ok {b : Bool} {t : SetTable} (h : TabOk b t) (es : Array (Int × Value)) (wanted : Nat) : TabOk b (relayAll t es wanted).2.1 := by
  unfold relayAll
  split
  · rename_i t' order e
    dsimp only
    split
    · unfold SetTable.relaid at e
      have := laid_ok e
      rw [h.led] at this
      exact this
    · exact standIn_ok h _
  · exact standIn_ok h _
end SetX
namespace SetX
open PySem
def ledOf (w : World) : Bool := !(w.params.followText "set-order")
def val (e : Int × Value) : Int := match e.2 with | .int n _ => n | _ => 0
def Ent (l : List (Int × Value)) : Prop := ∀ e ∈ l, ∃ n t, e = (hashInt n, Value.int n t)
def SetAt (w : World) (h : Heap) (a : Addr) (ns : List Int) : Prop :=
  ∃ o es ep t, h.get? a = some o ∧ o.ExactSet ∧ o.data = .set es ep t ∧ Ent es.toList ∧ es.toList.map val = ns ∧ ns.Nodup ∧ ns.length < scanBound ∧ t.fits es.size = true ∧ TabOk (ledOf w) t
theorem SetAt.keeps {w : World} {h h' : Heap} {a : Addr} {ns : List Int} (S : SetAt w h a ns) (k : ∀ o, h.get? a = some o → h'.get? a = some o) : SetAt w h' a ns := by
  obtain ⟨o, es, ep, t, ho, r⟩ := S
  exact ⟨o, es, ep, t, k o ho, r⟩
theorem Ent.elems {prog : Program} {w : World} {l : List (Int × Value)} (h : Ent l) : ElemsOf (intKind prog w) l := fun e he => by
  obtain ⟨n, t, rfl⟩ := h e he
  exact ⟨⟨n, intKind_is prog w n t, rfl⟩, rfl⟩
theorem is_val {prog : Program} {w : World} {e : Int × Value} (h : ∃ n t, e = (hashInt n, Value.int n t)) (k : Int) : (intKind prog w).is k e.2 = decide (k = val e) := by
  obtain ⟨n, t, rfl⟩ := h
  show Value.isInt k (Value.int n t) = decide (k = n)
  unfold Value.isInt
  by_cases e : k = n
  · subst e; simp
  · have e' : ¬ n = k := fun z => e z.symm
    simp [e, e']
theorem Ent.perm {l l' : List (Int × Value)} (h : Ent l) (p : List.Perm l' l) : Ent l' := fun e he => h e (p.mem_iff.mp he)
theorem Ent.snoc {l : List (Int × Value)} (h : Ent l) (k : Int) (t : Tok) : Ent (l ++ [(hashInt k, Value.int k t)]) := fun e he => by
  rcases List.mem_append.mp he with z | z
  · exact h e z
  · have z' : e = (hashInt k, Value.int k t) := by simpa using z
    exact ⟨k, t, z'⟩
theorem find_none {prog : Program} {w : World} {l : List (Int × Value)} (h : Ent l) {k : Int} : l.findIdx? (fun e => (intKind prog w).is k e.2) = none ↔ k ∉ l.map val := by
  rw [List.findIdx?_eq_none_iff]
  constructor
  · intro q hm
    obtain ⟨e, he, rfl⟩ := List.mem_map.mp hm
    have := q e he
    rw [is_val (h e he)] at this
    simp at this
  · intro q e he
    rw [is_val (h e he)]
    refine decide_eq_false fun z => q ?_
    rw [z]
    exact List.mem_map.mpr ⟨e, he, rfl⟩
section
variable {prog : Program} {w : World} {A : Around} {E : Value → Shared → Prop} {s : Shared} {a : Addr} {ns : List Int} {k : Int} {tk : Tok}
theorem fits_line {n : Nat} (h : n < scanBound) : n ≤ sizeLine := by
  have h1 : scanBound = 4096 := rfl
  rw [h1] at h; rw [sizeLine_eq]; omega
theorem store_at {h : Heap} {o : Obj} {es es' : Array (Int × Value)} {ep : Nat} {t t' : SetTable} (ho : h.get? a = some o) (hd : o.data = .set es ep t) :
    (h.update a (Obj.putSet es' t')).get? a = some { o with data := .set es' (ep + 1) t' } := by
  have z := Heap.get?_update_self (Obj.putSet es' t') ho (by rw [putSet_of es' t' hd]; rfl)
  rw [putSet_of es' t' hd] at z; exact z
theorem find_int {x : Value} (hx : x = .int k tk) {Q : Option Nat → Shared → Prop} (hS : SetAt w s.heap a ns) (h : ∀ r : Option Nat, r.isSome = decide (k ∈ ns) → Q r s) : wpAny (model prog w) A (setFind a x (hashInt k)) Q E s := by
  subst hx
  obtain ⟨o, es, ep, t, ho, hex, hd, he, rfl, hn, hb, hf, ht⟩ := hS
  have hz : es.size < scanBound := by simpa using hb
  unfold setFind setFindIn
  refine wpAny_bind (wpAny_setState_of ho hd hf ?_); dsimp only
  rw [byScan_of (knd := intKind prog w) rfl hz he.elems]; simp only [↓reduceIte]; refine wpAny_bind (wpAny_rule ?_)
  refine wpAny_bind (wpAny_setScan_of (knd := intKind prog w) (k := k) (intKind_is prog w k tk) ho hd hf he.elems ?_)
  cases hr : List.findIdx? (fun e => (intKind prog w).is k e.2) es.toList with
  | none =>
    dsimp only
    refine wpAny_pure (h none ?_)
    have := (find_none he).mp hr
    rw [decide_eq_false this]; rfl
  | some j =>
    dsimp only
    refine wpAny_pure (h (some (0 + j)) ?_)
    have : k ∈ es.toList.map val := by
      refine Decidable.byContradiction fun z => ?_
      rw [(find_none (prog := prog) (w := w) he).mpr z] at hr
      cases hr
    rw [decide_eq_true this]; rfl
theorem add_int {x : Value} (hx : x = .int k tk) {Q : Bool → Shared → Prop} (hS : SetAt w s.heap a ns) (hroom : ns.length + 1 < scanBound)
    (h : ∀ h' ns', Heap.SameBut a s.heap h' → SetAt w h' a ns' → (∀ y, y ∈ ns' ↔ y ∈ ns ∨ y = k) → ns'.length ≤ ns.length + 1 → Q (!decide (k ∈ ns)) { s with heap := h' }) : wpAny (model prog w) A (setAddHashed a x (hashInt k)) Q E s := by
  subst hx
  obtain ⟨o, es, ep, t, ho, hex, hd, he, rfl, hn, hb, hf, ht⟩ := hS
  have hz : es.size < scanBound := by simpa using hb
  have hz1 : es.size + 1 < scanBound := by simpa using hroom
  have ie : (es.toList.map val).length = es.size := by simp
  unfold setAddHashed setAddHashedIn; refine wpAny_holding (wpAny_bind (wpAny_setState_of ho hd hf ?_)); dsimp only
  rw [byScan_of (knd := intKind prog w) rfl hz he.elems]; simp only [↓reduceIte]
  unfold setAddByScan; refine wpAny_bind ?_; refine wpAny_bind (wpAny_rule ?_)
  refine wpAny_bind (wpAny_setScan_of (knd := intKind prog w) (k := k) (intKind_is prog w k tk) ho hd hf he.elems ?_)
  cases hr : List.findIdx? (fun e => (intKind prog w).is k e.2) es.toList with
  | some j =>
    have hk : k ∈ es.toList.map val := by
      refine Decidable.byContradiction fun z => ?_
      rw [(find_none (prog := prog) (w := w) he).mpr z] at hr
      cases hr
    dsimp only
    refine wpAny_pure (wpAny_pure ?_)
    have q := h s.heap (es.toList.map val) (Heap.SameBut.refl a s.heap) ⟨o, es, ep, t, ho, hex, hd, he, rfl, hn, hb, hf, ht⟩ (fun y => ⟨.inl, fun z => z.elim id fun z => z ▸ hk⟩) (Nat.le_succ _)
    rw [decide_eq_true hk] at q
    exact q
  | none =>
    have hk : k ∉ es.toList.map val := (find_none he).mp hr
    dsimp only
    have hgw : ∀ (c : Bool) {s₁ : Shared} {Q' : Unit → Shared → Prop}, Q' () s₁ → wpAny (model prog w) A (match c with | true => rule "set.scan.the-table-gave-way" | false => pure ()) Q' E s₁ := fun c s₁ Q' hq => by
      cases c <;> first | exact wpAny_pure hq | exact wpAny_rule hq
    have hperm := layNew_perm t es (hashInt k) (.int k tk)
    have hfits := layNew_fits t es (hashInt k) (.int k tk)
    have hok := layNew_ok ht es (hashInt k) (.int k tk)
    generalize hL : layNew t es (hashInt k) (.int k tk) = L at hperm hfits hok ⊢
    have hL' : layNew t es ((intKind prog w).hash k) (.int k tk) = L := hL
    obtain ⟨es1, t1, wd, gave⟩ := L
    first | rw [hL'] | skip
    dsimp only at hperm hfits hok ⊢
    rw [Array.toList_push] at hperm
    have he1 : Ent es1.toList := (he.snoc k tk).perm hperm
    have mem1 : ∀ y, y ∈ es1.toList.map val ↔ y ∈ es.toList.map val ∨ y = k := fun y => by
      rw [(hperm.map val).mem_iff, List.map_append, List.mem_append]
      show _ ∨ y ∈ [k] ↔ _
      rw [List.mem_singleton]
    have nd1 : (es1.toList.map val).Nodup := by
      refine (hperm.map val).nodup_iff.mpr ?_
      rw [List.map_append]
      refine List.nodup_append.mpr ⟨hn, by simp, fun p hp q hq z => ?_⟩
      have hq' : q = k := by simpa [val] using hq
      exact hk (hq' ▸ z ▸ hp)
    have sz1 : es1.size = es.size + 1 := by
      have := hperm.length_eq
      simpa using this
    have hb1 : (es1.toList.map val).length < scanBound := by simpa [sz1] using hz1
    have hend : ∀ h', Heap.SameBut a s.heap h' → ∀ es2 : Array (Int × Value), SetAt w h' a (es2.toList.map val) → List.Perm es2.toList es1.toList → Q true { s with heap := h' } := fun h' sb es2 S2 p2 => by
      have q := h h' (es2.toList.map val) sb S2 (fun y => by rw [(p2.map val).mem_iff]; exact mem1 y) (by rw [(p2.map val).length_eq]; simp [sz1])
      rw [decide_eq_false hk] at q
      exact q
    have tail : ∀ t2 : SetTable, t2.fits es1.size = true → TabOk (ledOf w) t2 → ∀ R : Option Bool → Shared → Prop, (∀ h', Heap.SameBut a s.heap h' → ∀ es2 : Array (Int × Value), SetAt w h' a (es2.toList.map val) → List.Perm es2.toList es1.toList → R (some true) { s with heap := h' }) →
        ∀ g : Bool → Sem Unit, (∀ (c : Bool) (s₁ : Shared) (Q' : Unit → Shared → Prop), Q' () s₁ → wpAny (model prog w) A (g c) Q' E s₁) → wpAny (model prog w) A (do
          storeSet a es1 t2
          if (!wd && t2.tooFull) = true then do
              g (relayAll t2 es1 (SetTable.grown es1.size)).2.2
              storeSet a (relayAll t2 es1 (SetTable.grown es1.size)).1 (relayAll t2 es1 (SetTable.grown es1.size)).2.1
              pure (some true)
            else pure (some true)) R E s := by
      intro t2 hf2 hk2 R hR g hg
      refine wpAny_bind (wpAny_storeSet_of ho hd ?_ (fits_line (by rw [sz1]; exact hz1)))
      have e1 := store_at (es' := es1) (t' := t2) ho hd
      have sb1 := Heap.SameBut.update s.heap a (Obj.putSet es1 t2)
      split
      · have p2 := relayAll_perm t2 es1 (SetTable.grown es1.size)
        have f2 := relayAll_fits t2 es1 (SetTable.grown es1.size)
        have k2 := relayAll_ok hk2 es1 (SetTable.grown es1.size)
        generalize relayAll t2 es1 (SetTable.grown es1.size) = Rl at p2 f2 k2 ⊢
        obtain ⟨es2, t3, gave2⟩ := Rl
        dsimp only at p2 f2 k2 ⊢
        have sz2 : es2.size = es1.size := by rw [← Array.length_toList, p2.length_eq, Array.length_toList]
        refine wpAny_bind (hg _ _ _ ?_)
        refine wpAny_bind (wpAny_storeSet_of e1 rfl ?_ (fits_line (by rw [sz2, sz1]; exact hz1)))
        have e2 := store_at (es' := es2) (t' := t3) e1 rfl
        exact wpAny_pure (hR _ (sb1.trans (Heap.SameBut.update _ a _)) es2 ⟨_, es2, _, t3, e2, hex, rfl, he1.perm p2, rfl, (p2.map val).nodup_iff.mpr nd1, by rw [(p2.map val).length_eq]; exact hb1, f2, k2⟩ p2)
      · exact wpAny_pure (hR _ sb1 es1 ⟨_, es1, _, t2, e1, hex, rfl, he1, rfl, nd1, hb1, hf2, hk2⟩ .rfl)
    refine wpAny_bind (hgw _ ?_)
    split
    · refine wpAny_bind ?_
      rw [hashByValue_scannable 8 rfl]
      refine wpAny_pure ?_
      refine tail _ ?_ ?_ _ ?_ _ ?_
      · exact hfits
      · exact hok
      · intro h' sb es2 S2 p2; dsimp only; exact wpAny_pure (hend h' sb es2 S2 p2)
      · intro c s₁ Q' hq; cases c <;> first | exact wpAny_pure hq | exact wpAny_rule hq
    · refine wpAny_bind (wpAny_pure ?_)
      simp only [↓reduceIte]
      refine tail _ hfits hok _ ?_ _ ?_
      · intro h' sb es2 S2 p2; dsimp only; exact wpAny_pure (hend h' sb es2 S2 p2)
      · intro c s₁ Q' hq; cases c <;> first | exact wpAny_pure hq | exact wpAny_rule hq
end
end SetX
namespace SetX
open PySem PyProof.Rows
section
variable {prog : Program} {w : World} {A : Around} {R : Result → Shared → Prop} {I : Addr} {fp wr : List Addr} {G : Array GenState → Array GenState → Prop} {n : Nat} {P : Nat → Value → Prop} {St : Nat → Shared → Prop}
theorem update_loopX (W : WalksS prog w A.in1 I fp wr G n P St) (S : Addr) (hSf : S ∉ fp) (vl : Nat → Int) (hval : ∀ i v, P i v → ∃ t, v = .int (vl i) t) (hb : n + 1 < scanBound) :
    ∀ (k i : Nat) (s : Shared) (ns : List Int), n - i = k → i ≤ n → St i s → SetAt w s.heap S ns → (∀ y, y ∈ ns ↔ ∃ j, j < i ∧ y = vl j) → ns.length ≤ i →
      (∀ s' ns', Moved (S :: wr) G s s' → SetAt w s'.heap S ns' → (∀ y, y ∈ ns' ↔ ∃ j, j < n ∧ y = vl j) → R (.ok (.ret .none)) s') → codeAny (model prog w) A (.builtin "set.update.loop" ⟨[.ref S, .ref I], []⟩) R s := by
  have nw : S ∉ wr := fun z => hSf (W.sub _ z)
  have up : ∀ b ∈ wr, b ∈ S :: wr := fun b z => List.mem_cons_of_mem _ z
  intro k
  induction k with
  | zero =>
    intro i s ns hk hi hst hS hm hl hR
    have e : i = n := by omega
    subst e
    refine codeAny_builtin F.entry_set_update_loop ?_; rw [Around.under_plainId F.plain_set_update_loop _]; show wpAny _ A.in1 (pyNext (.ref I) >>= _) _ _ s
    refine wpAny_bind (W.done s _ _ hst fun s' mv => ?_); show wpAny _ A.in1 (ret Value.none) _ _ s'
    exact wpAny_pure (hR s' ns (mv.mono up) (hS.keeps fun o ho => mv.heap S o nw ho) hm)
  | succ k ih =>
    intro i s ns hk hi hst hS hm hl hR
    have lt : i < n := by omega
    refine codeAny_builtin F.entry_set_update_loop ?_; rw [Around.under_plainId F.plain_set_update_loop _]; show wpAny _ A.in1 (pyNext (.ref I) >>= _) _ _ s
    refine wpAny_bind (W.item i s _ _ lt hst fun v s' hP hst' mv => ?_)
    obtain ⟨t, rfl⟩ := hval i v hP
    have hS' : SetAt w s'.heap S ns := hS.keeps fun o ho => mv.heap S o nw ho
    show wpAny _ A.in1 (holding [Value.int (vl i) t] (setAdd S (.int (vl i) t)) >>= _) _ _ s'
    refine wpAny_bind (wpAny_holding ?_); unfold setAdd; refine wpAny_holding ?_
    refine wpAny_bind ((intKind prog w).pyHash (k := vl i) (intKind_is _ _ _ _) ?_)
    refine add_int (s := { s' with toks := s'.toks + 1 }) (k := vl i) (tk := t) rfl hS' (by omega) fun h' ns' sb S2 m2 l2 => ?_
    refine wpAny_pure ⟨plainId_quiet F.plain_set_update_loop _, ih (i + 1) _ ns' (by omega) lt (W.frame _ s' _ _ hst' (Nat.le_succ _) fun b hb o e => ?_) S2 (fun y => ?_) (by omega) fun s'' ns'' mv2 S3 m3 => ?_⟩
    · rw [sb.2 b (fun z : b = S => hSf (by rw [← z]; exact hb))]; exact e
    · rw [m2, hm]
      constructor
      · rintro (⟨j, hj, e⟩ | e)
        · exact ⟨j, by omega, e⟩
        · exact ⟨i, by omega, e⟩
      · rintro ⟨j, hj, e⟩
        by_cases z : j = i
        · exact .inr (by rw [e, z])
        · exact .inl ⟨j, by omega, e⟩
    · refine hR s'' ns'' (Moved.trans W.gtrans ((mv.mono up).then_heap (Nat.le_succ _) fun b o hb e => ?_) mv2) S3 m3
      rw [sb.2 b (fun z : b = S => hb (by rw [z]; exact List.mem_cons_self))]; exact e
end
section
variable {prog : Program} {w : World} {A : Around} {E : Value → Shared → Prop} {s : Shared}
abbrev newSetObj (w : World) : Obj := { cls := .type "set", dict := none, data := .set #[] 0 (.fresh 0 0 (ledOf w)) }
theorem fresh_ok (b : Bool) : TabOk b (.fresh 0 0 b) := ⟨rfl, fun a c h1 h2 => absurd h2 (by show ¬ c < 0; omega)⟩
theorem setAt_new {h : Heap} {a : Addr} (e : h.get? a = some (newSetObj w)) : SetAt w h a [] := ⟨_, #[], 0, _, e, ⟨rfl, rfl, rfl⟩, rfl, fun e he => by simp at he, rfl, List.nodup_nil, by decide, rfl, fresh_ok _⟩
theorem set_new_led (a : Value) {Q₁ : Value → Shared → Prop} (h : Q₁ (.ref s.heap.objs.size) { s with heap := s.heap.push (newSetObj w) }) :
    codeAny (model prog w) A (.call (.builtin "set.__new__") ⟨[.type "set", a], []⟩) (wants Q₁ E) s := by
  refine codeAny_of_tree ?_
  show wpAny _ A.in1 (do checkBuiltinCall "set.__new__" ⟨[.type "set", a], []⟩; again (.builtin "set.__new__" ⟨[.type "set", a], []⟩)) _ _ s
  refine wpAny_bind (wpAny_of_eq (F.newCall_set_1 a) (wpAny_pure ⟨plainId_quiet F.plain_set_new _, codeAny_builtin F.entry_set_new ?_⟩))
  rw [Around.under_plainId F.plain_set_new _]; unfold Builtin.«set.__new__» Builtin.Frozenset.newClass
  have hsub := sub_set_self
  obtain ⟨hp, g, d, tk, os⟩ := s
  dsimp only
  wp_walk
  refine wpAny_askSetting (wpAny_pure ?_); dsimp only; simp only [newObj]; refine wpAny_bind (wpAny_alloc (wpAny_pure ?_))
  exact wpAny_pure h
set_option maxRecDepth 100000 in
set_option maxHeartbeats 8000000 in
theorem call_set_listX {l : Addr} {items : Array Value} {ns : List Int} {Q : Value → Shared → Prop} (hh : A.handled = none) (hl : s.heap.IsList l items) (hi : PyProof.Rows.IntsAre items.toList ns) (hb : items.size + 1 < scanBound)
    (h : ∀ (h' : Heap) (tk : Nat) (ms : List Int), SetAt w h' s.heap.objs.size ms → (∀ y, y ∈ ms ↔ y ∈ ns) → (∀ b o, b < s.heap.objs.size → s.heap.get? b = some o → h'.get? b = some o) → Q (.ref s.heap.objs.size) { s with heap := h', toks := tk }) :
    wpAny (model prog w) A (call (.type "set") [.ref l]) Q E s := by
  obtain ⟨c, tl, hmro⟩ := F.called_set.mro
  have hmade := F.called_set.made
  have hsub := F.called_set.sub
  refine wpAny_call (codeAny_of_tree ?_); show wpAny _ _ (callAny (.type "set") _) _ _ _
  refine wpAny_pure ⟨Code.quiet_builtin _ (by decide +kernel), codeAny_builtin F.entry_type_call ?_⟩
  rw [Around.under_plain (weight_type_call_type "set" [.ref l] []) rfl]
  have h1 := F.called_set.notType
  have h2 := F.called_set.canCreate
  have hct := F.typeCall_set_1 (.ref l)
  repeat (any_goals (first | assumption | wp_step))
  refine codeAny_mono (set_new_led (.ref l) (E := E) (Q₁ := fun obj s₁ => obj = .ref s.heap.objs.size ∧ s₁ = { s with heap := s.heap.push (newSetObj w) }) ⟨rfl, rfl⟩) fun r s₁ hr => ?_
  cases r with
  | error e => exact hr
  | ok fl =>
    cases fl with
    | ret obj =>
      obtain ⟨rfl, rfl⟩ := hr
      have hS : (s.heap.push (newSetObj w)).get? s.heap.objs.size = some (newSetObj w) := Heap.get?_push_size _ rfl
      have hT : Shared.TypeIs { s with heap := s.heap.push (newSetObj w) } (.ref s.heap.objs.size) "set" := ⟨_, hS, rfl⟩
      have hli := F.called_set.init.lookup
      have hbi := F.called_set.init.bind (.ref s.heap.objs.size)
      repeat (any_goals (first | assumption | wp_step))
      refine codeAny_mono (codeAny_call_builtin (R := wants (fun r s₂ => r = .none ∧ ∃ h' tk ms, s₂ = { s with heap := h', toks := tk } ∧ SetAt w h' s.heap.objs.size ms ∧ (∀ y, y ∈ ms ↔ y ∈ ns) ∧ (∀ b o, b < s.heap.objs.size → s.heap.get? b = some o → h'.get? b = some o)) E)
        F.called_set.init.plain F.entry_set_init (check_set_init_1 hT ?_)) fun r₂ s₂ hr₂ => ?_
      · obtain ⟨ol, hol, hcl, nl, hdl⟩ := hl
        obtain ⟨ocls, odict, odata, oslots⟩ := ol
        simp only at hcl hdl
        subst hcl; subst hdl
        have hol' : (s.heap.push (newSetObj w)).get? l = some { cls := .type "list", dict := odict, data := .seq items nl, slots := oslots } := Heap.get?_push_of_some _ hol
        have hsls := F.sub_list_set
        have hslf := F.sub_list_frozenset
        have hne : (Value.type "list" == Value.type "dict") = false := by decide
        have hl1 : (s.heap.push (newSetObj w)).IsList l items := ⟨_, hol', rfl, nl, rfl⟩
        unfold Builtin.«set.__init__» noKeywords Builtin.Frozenset.updateFrom
        generalize hPI : pyIter = PI
        wp_walk
        subst hPI
        refine wpAny_pyIter_list hl1 ?_; refine wpAny_bind (wpAny_runValue ?_)
        have hlS : l < s.heap.objs.size := Heap.lt_size hol
        have hh3 : A.in1.in1.in1.handled = none := by simp [hh]
        have zs : (s.heap.push (newSetObj w)).objs.size = s.heap.objs.size + 1 := Heap.size_push ..
        have hval : ∀ (i : Nat) (v : Value), items[i]? = some v → ∃ t, v = .int ((fun i => ns.getD i 0) i) t := fun i v hv => PyProof.Rows.IntsAre.int_at hi i v (by rw [Array.getElem?_toList]; exact hv)
        have zn : items.size = ns.length := by have := IntsAre.length hi; simpa using this
        refine update_loopX ((Walks.list hh3 _ l (by rw [zs]; exact Nat.ne_of_lt (Nat.lt_succ_of_lt hlS)) items).toS) s.heap.objs.size (by rw [zs]; simp only [List.mem_cons, List.mem_singleton, List.not_mem_nil, or_false, not_or]; exact ⟨Nat.ne_of_lt (Nat.lt_succ_self _), Nat.ne_of_gt hlS⟩) (fun i => ns.getD i 0) hval hb (items.size - 0) 0 _ [] (by omega) (Nat.zero_le _)
          ⟨⟨_, Heap.get?_push_size _ rfl, rfl, rfl⟩, (hl1.push _)⟩ (setAt_new (Heap.get?_push_of_some _ hS)) (fun y => by simp) (Nat.zero_le _) ?_
        intro s' ms mv S2 m2
        obtain ⟨h', g', d', tk', os'⟩ := s'
        have eg : g' = s.gens := mv.gens
        have ed : d' = s.drawn := mv.drawn
        have eo : os' = s.os := mv.os
        subst eg; subst ed; subst eo
        show wpAny _ _ _ _ _ _
        refine wpAny_pure ?_
        show wpAny _ _ (ret Value.none) _ _ _
        refine wpAny_pure ⟨rfl, h', tk', ms, rfl, S2, fun y => ?_, fun b o hb e => ?_⟩
        · rw [m2 y, zn]
          constructor
          · rintro ⟨j, hj, rfl⟩
            have : ns.getD j 0 = ns[j] := by simp [List.getD, hj]
            show ns.getD j 0 ∈ ns
            rw [this]; exact List.getElem_mem hj
          · intro hy
            obtain ⟨j, hj, rfl⟩ := List.mem_iff_getElem.mp hy
            exact ⟨j, hj, by simp [List.getD, hj]⟩
        · have hb1 : b ≠ s.heap.objs.size := Nat.ne_of_lt hb
          have hb2 : b ≠ (s.heap.push (newSetObj w)).objs.size := by rw [zs]; exact Nat.ne_of_lt (Nat.lt_succ_of_lt hb)
          exact mv.heap b o (by simp only [List.mem_cons, List.mem_singleton, List.not_mem_nil, or_false, not_or]; exact ⟨hb1, hb2⟩) (Heap.get?_push_of_some _ (Heap.get?_push_of_some _ e))
      · cases r₂ with
        | error e => exact hr₂
        | ok fl₂ =>
          cases fl₂ with
          | ret r =>
            obtain ⟨rfl, h', tk, ms, rfl, S2, m2, hk'⟩ := hr₂
            repeat (any_goals (first | assumption | wp_step))
            exact h _ _ _ S2 m2 hk'
          | _ => exact hr₂.elim
    | _ => exact hr.elim
end
end SetX
end
section
namespace SetX
open PySem PyProof.Rows
theorem perm_erase {α : Type} : ∀ (l : List α) (i : Nat) (h : i < l.length), List.Perm (l[i] :: l.eraseIdx i) l
  | [], i, h => absurd h (by simp)
  | x :: l, 0, h => .rfl
  | x :: l, i + 1, h => by
    have h' : i < l.length := by simpa using h
    show List.Perm (l[i] :: x :: l.eraseIdx i) (x :: l)
    exact (List.Perm.swap x l[i] _).trans ((perm_erase l i h').cons x)
theorem pick_go {α : Type} (next : Nat → Nat) : ∀ (fuel k : Nat) (left : List α) (out : Array α), left.length = fuel → List.Perm (pickOrder.go next fuel k left out).toList (out.toList ++ left)
  | 0, k, left, out, h => by
    have e : left = [] := List.length_eq_zero_iff.mp h
    subst e
    show List.Perm out.toList (out.toList ++ [])
    rw [List.append_nil]
  | fuel + 1, k, left, out, h => by
    show List.Perm (match left[next k % left.length]? with
      | some x => pickOrder.go next fuel (k + 1) (left.eraseIdx (next k % left.length)) (out.push x)
      | none => out).toList _
    have hlt : next k % left.length < left.length := Nat.mod_lt _ (by omega)
    rw [List.getElem?_eq_getElem hlt]
    dsimp only
    have hz : (left.eraseIdx (next k % left.length)).length = fuel := by rw [List.length_eraseIdx_of_lt hlt]; omega
    refine (pick_go next fuel (k + 1) _ _ hz).trans ?_
    rw [Array.toList_push, List.append_assoc]
    refine List.Perm.append_left _ ?_
    exact perm_erase _ _ hlt
theorem pickOrder_perm {α : Type} (next : Nat → Nat) (xs : Array α) : List.Perm (pickOrder next xs).toList xs.toList := by
  unfold pickOrder
  have := pick_go next xs.size 0 xs.toList #[] (by simp)
  simpa using this
section
variable {prog : Program} {w : World} {A : Around} {E : Value → Shared → Prop} {s : Shared} {a : Addr} {ns : List Int}
theorem wpAny_choose {src : Source} {n : Nat} {Q : Nat → Shared → Prop} (hn : n ≠ 0) (h : ∀ k d, k < n → Q k { s with drawn := d }) : wpAny (model prog w) A (choose src n) Q E s := by
  intro Γ p hΓ
  exact ⟨hn, h _ _ (Nat.mod_lt _ (Nat.pos_of_ne_zero hn))⟩
theorem drawOrder_of {α : Type} : ∀ (n : Nat) (xs : List α) (s : Shared) (Q : List α → Shared → Prop), xs.length = n → (∀ ys d, List.Perm ys xs → Q ys { s with drawn := d }) → wpAny (model prog w) A (drawOrder n xs) Q E s
  | 0, xs, s, Q, hl, h => by
    have e : xs = [] := List.length_eq_zero_iff.mp hl
    subst e
    exact wpAny_pure (h [] s.drawn .nil)
  | n + 1, [], s, Q, hl, h => by simp at hl
  | n + 1, x :: xs, s, Q, hl, h => by
    unfold drawOrder
    refine wpAny_bind (wpAny_choose (by simp) fun k d hk => ?_)
    rw [List.getElem?_eq_getElem hk]
    dsimp only
    refine wpAny_bind (drawOrder_of n _ _ _ (by rw [List.length_eraseIdx_of_lt hk]; omega) fun ys d' p => ?_)
    refine wpAny_pure (h _ d' ?_)
    exact (p.cons _).trans (perm_erase _ _ hk)
theorem setWalk_of {o : Obj} {es : Array (Int × Value)} {ep : Nat} {t : SetTable} {Q : Array (Int × Value) → Shared → Prop} (ho : s.heap.get? a = some o) (hd : o.data = .set es ep t) (hf : t.fits es.size = true) (hl : t.led = ledOf w)
    (h : ∀ es' d, List.Perm es'.toList es.toList → Q es' { s with drawn := d }) : wpAny (model prog w) A (setWalk a) Q E s := by
  unfold setWalk setsByText
  refine wpAny_bind (wpAny_setState_of ho hd hf ?_); dsimp only
  refine wpAny_bind (wpAny_bind (wpAny_askSetting (wpAny_pure ?_)))
  by_cases hb : (model prog w).w.params.followText "set-order" = true
  · dsimp only
    rw [if_pos hb]
    refine wpAny_bind (wpAny_askSetting (wpAny_pure ?_))
    exact h _ s.drawn (pickOrder_perm _ _)
  · dsimp only
    rw [if_neg hb]
    have hb' : ¬ w.params.followText "set-order" = true := hb
    have hl' : t.led = true := by rw [hl]; unfold ledOf; simp [hb']
    split
    · refine wpAny_bind (drawOrder_of _ _ _ _ (by simp) fun ys d p => ?_)
      exact wpAny_pure (h _ d (by simpa using p))
    · refine wpAny_bind ?_
      show wpAny _ _ (if (!t.led && decide (es.size > 1)) = true then _ else _) _ _ _
      rw [hl']
      simp only [Bool.not_true, Bool.false_and, Bool.false_eq_true, if_false]
      exact wpAny_pure (wpAny_pure (h es s.drawn .rfl))
end
end SetX
namespace SetX
open PySem PyProof.Rows
section
variable {prog : Program} {w : World} {A : Around} {E : Value → Shared → Prop} {s : Shared} {a b : Addr} {ns ms : List Int}
theorem forIn_arr {M : Model} {α β : Type} {s : Shared} (f : α → β → Sem (ForInStep β)) (I : List α → β → Shared → Prop) (Q : β → Shared → Prop)
    (turn : ∀ x rest c s, I (x :: rest) c s → wpAny M A (f x c) (fun r s' => match r with | .yield c' => I rest c' s' | .done c' => Q c' s') E s) (fin : ∀ c s, I [] c s → Q c s) (xs : Array α) (c : β) (h : I xs.toList c s) : wpAny M A (forIn xs c f) Q E s := by
  rw [← Array.forIn_toList]; exact wpAny_forIn_list f I Q turn fin _ c h
theorem setsQuiet_of : ∀ (l : List Addr) {Q : Bool → Shared → Prop}, (∀ c ∈ l, ∃ ks, SetAt w s.heap c ks) → Q true s → wpAny (model prog w) A (setsQuiet l) Q E s := by
  intro l Q hl hQ
  unfold setsQuiet
  refine wpAny_bind ?_
  refine wpAny_forIn_list _ (fun rest r s' => r = ⟨none, ()⟩ ∧ s' = s ∧ ∀ c ∈ rest, ∃ ks, SetAt w s.heap c ks) _ ?_ ?_ l _ ⟨rfl, rfl, hl⟩
  · rintro c rest r s' ⟨rfl, rfl, hc⟩
    obtain ⟨ks, o, es, ep, t, ho, hex, hd, he, _, _, _, hf, _⟩ := hc c List.mem_cons_self
    refine wpAny_bind (wpAny_setEntries_of ho hd hf ?_)
    refine wpAny_bind ?_
    refine forIn_arr _ (fun rest' r' s'' => r' = ⟨none, ()⟩ ∧ s'' = s' ∧ ∀ e ∈ rest', e ∈ es.toList) _ ?_ ?_ es _ ⟨rfl, rfl, fun e z => z⟩
    · rintro ⟨hv, x⟩ rest' r' s'' ⟨rfl, rfl, hm⟩
      obtain ⟨n, tk, e⟩ := he _ (hm _ List.mem_cons_self)
      have e2 : x = .int n tk := congrArg Prod.snd e
      subst e2
      exact wpAny_pure ⟨rfl, rfl, fun e z => hm e (List.mem_cons_of_mem _ z)⟩
    · rintro r' s'' ⟨rfl, rfl, _⟩
      exact wpAny_pure ⟨rfl, rfl, fun c' z => hc c' (List.mem_cons_of_mem _ z)⟩
  · rintro r s' ⟨rfl, rfl, _⟩
    exact wpAny_pure hQ
theorem walkUnseen_of {others : List Addr} {r : Addr} {o : Obj} {es : Array (Int × Value)} {ep : Nat} {t : SetTable} {Q : Array (Int × Value) → Shared → Prop} (ho : s.heap.get? a = some o) (hex : o.ExactSet) (hd : o.data = .set es ep t) (he : Ent es.toList) (hnd : (es.toList.map val).Nodup)
    (hb : (es.toList.map val).length < scanBound) (hf : t.fits es.size = true) (ht : TabOk (ledOf w) t) (hoth : ∀ c ∈ others, ∃ ks, SetAt w s.heap c ks) (hr : SetAt w s.heap r [])
    (h : ∀ es' h' d, List.Perm es'.toList es.toList → Heap.SameBut r s.heap h' → SetAt w h' r [] → Q es' { s with heap := h', drawn := d }) : wpAny (model prog w) A (setWalkUnseen a others (some r)) Q E s := by
  unfold setWalkUnseen setsByText
  refine wpAny_bind (wpAny_setState_of ho hd hf ?_); dsimp only
  refine wpAny_bind (wpAny_bind (wpAny_askSetting (wpAny_pure ?_)))
  dsimp only
  have plainW : ∀ (Q' : Array (Int × Value) → Shared → Prop), (∀ es' d, List.Perm es'.toList es.toList → Q' es' { s with drawn := d }) → wpAny (model prog w) A (setWalk a) Q' E s := fun Q' q => setWalk_of ho hd hf ht.led q
  split
  · exact plainW _ fun es' d p => h es' s.heap d p (.refl ..) hr
  · refine wpAny_bind (setsQuiet_of (a :: others) (fun c hc => ?_) ?_)
    · rcases List.mem_cons.mp hc with z | z
      · subst z; exact ⟨_, o, es, ep, t, ho, hex, hd, he, rfl, hnd, hb, hf, ht⟩
      · exact hoth c z
    · simp only [Bool.not_true, Bool.false_eq_true, if_false]
      refine wpAny_bind (wpAny_rule ?_)
      obtain ⟨o2, es2, ep2, t2, ho2, hex2, hd2, he2, m2, nd2, hb2, hf2, ht2⟩ := id hr
      refine wpAny_bind (wpAny_setState_of ho2 hd2 hf2 ?_); dsimp only
      have z2 : es2.toList = [] := List.map_eq_nil_iff.mp m2
      have z2' : es2.size = 0 := by rw [← Array.length_toList, z2]; rfl
      split
      · refine wpAny_bind (wpAny_storeSet_of ho2 hd2 ?_ (by rw [z2']; exact Nat.zero_le _))
        have e1 := store_at (es' := es2) (t' := { t2 with led := t2.led && t.led, plain := t2.plain && t.plain }) ho2 hd2
        refine wpAny_pure (h es _ s.drawn .rfl (Heap.SameBut.update ..) ⟨_, es2, _, _, e1, hex2, rfl, he2, m2, nd2, hb2, hf2, ?_, ht2.rise⟩)
        show (t2.led && t.led) = ledOf w
        rw [ht2.led, ht.led]; simp
      · exact wpAny_pure (h es s.heap s.drawn .rfl (.refl ..) hr)
theorem entry_set_and : entryFor table "set.__and__" = some Builtin.«frozenset.__and__» := entryFor_alias (id' := "frozenset.__and__") (by kernel_rfl) rfl (by decide +kernel) (by kernel_rfl)
theorem SetAt.ty {s : Shared} (S : SetAt w s.heap a ns) : s.TypeIs (.ref a) "set" := let ⟨o, _, _, _, ho, hex, _⟩ := S; ⟨o, ho, hex.1⟩
theorem anySet_of {Q : Bool → Shared → Prop} (S : SetAt w s.heap a ns) (h : Q true s) : wpAny (model prog w) A (Builtin.Frozenset.isAnySet (.ref a)) Q E s := by
  unfold Builtin.Frozenset.isAnySet
  show wpAny _ _ (isInstance (.ref a) (.type "set") >>= _) _ _ _
  refine wpAny_bind (wpAny_isInstance S.ty sub_set_self ?_)
  exact wpAny_pure h
theorem newSet_led {Q : Value → Shared → Prop} (h : Q (.ref s.heap.objs.size) { s with heap := s.heap.push (newSetObj w) }) : wpAny (model prog w) A (newSet (.type "set")) Q E s := by
  unfold newSet setsByText
  refine wpAny_bind (wpAny_bind (wpAny_askSetting (wpAny_pure ?_))); dsimp only; simp only [newObj]
  exact wpAny_bind (wpAny_alloc (wpAny_pure h))
set_option maxHeartbeats 8000000 in
theorem inter_of {Q : Value → Shared → Prop} {idn : String} (hab : b ≠ a) (S : SetAt w s.heap a ns) (T : SetAt w s.heap b ms)
    (h : ∀ h' d ks, SetAt w h' s.heap.objs.size ks → (∀ y, y ∈ ks ↔ y ∈ ns ∧ y ∈ ms) → (∀ c o, s.heap.get? c = some o → h'.get? c = some o) → Q (.ref s.heap.objs.size) { s with heap := h', drawn := d }) :
    wpAny (model prog w) A (Builtin.Frozenset.intersection idn a (.ref b)) Q E s := by
  unfold Builtin.Frozenset.intersection
  have hne : (Value.ref b == Value.ref a) = false := by
    rw [beq_eq_false_iff_ne]; intro z; exact hab (Value.ref.inj z)
  rw [if_neg (by rw [hne]; simp)]
  unfold Builtin.Frozenset.baseOf
  refine wpAny_bind (wpAny_bind (wpAny_isInstance S.ty sub_set_self (wpAny_pure ?_)))
  simp only [if_true]
  refine wpAny_bind (newSet_led ?_)
  have k1 : ∀ c o, s.heap.get? c = some o → (s.heap.push (newSetObj w)).get? c = some o := fun c o e => Heap.get?_push_of_some _ e
  have S1 : SetAt w (s.heap.push (newSetObj w)) a ns := S.keeps fun o e => k1 a o e
  have T1 : SetAt w (s.heap.push (newSetObj w)) b ms := T.keeps fun o e => k1 b o e
  have R1 : SetAt w (s.heap.push (newSetObj w)) s.heap.objs.size [] := setAt_new (Heap.get?_push_size _ rfl)
  have la : a < s.heap.objs.size := by obtain ⟨o, _, _, _, e, _⟩ := S; exact Heap.lt_size e
  have lb : b < s.heap.objs.size := by obtain ⟨o, _, _, _, e, _⟩ := T; exact Heap.lt_size e
  generalize hs1 : ({ s with heap := s.heap.push (newSetObj w) } : Shared) = s1
  have ks1 : ∀ c o, s.heap.get? c = some o → s1.heap.get? c = some o := fun c o e => by rw [← hs1]; exact k1 c o e
  have S1' : SetAt w s1.heap a ns := by rw [← hs1]; exact S1
  have T1' : SetAt w s1.heap b ms := by rw [← hs1]; exact T1
  have R1' : SetAt w s1.heap s.heap.objs.size [] := by rw [← hs1]; exact R1
  have fin1 : ∀ h' d ks, SetAt w h' s.heap.objs.size ks → (∀ y, y ∈ ks ↔ y ∈ ns ∧ y ∈ ms) → (∀ c o, c ≠ s.heap.objs.size → s1.heap.get? c = some o → h'.get? c = some o) → Q (.ref s.heap.objs.size) { s1 with heap := h', drawn := d } := fun h' d ks q1 q2 q3 => by
    have := h h' d ks q1 q2 fun c o e => q3 c o (Nat.ne_of_lt (Heap.lt_size e)) (ks1 c o e)
    rw [← hs1]; exact this
  show wpAny _ _ (Builtin.Frozenset.addrOf (.ref s.heap.objs.size) >>= _) _ _ _
  refine wpAny_bind (wpAny_pure ?_)
  refine wpAny_bind (wpAny_holding ?_)
  refine wpAny_bind (anySet_of T1' ?_)
  simp only [if_true]
  show wpAny _ _ (Builtin.Frozenset.addrOf (.ref b) >>= _) _ _ _
  refine wpAny_bind (wpAny_pure ?_)
  unfold Builtin.Frozenset.sizeOf
  obtain ⟨oa, ea, pa, ta, hoa, hxa, hda, hea, hma, hna, hba, hfa, hta⟩ := id S1'
  obtain ⟨ob, eb, pb, tb, hob, hxb, hdb, heb, hmb, hnb, hbb, hfb, htb⟩ := id T1'
  refine wpAny_bind (wpAny_bind (wpAny_setEntries_of hob hdb hfb (wpAny_pure ?_)))
  refine wpAny_bind (wpAny_bind (wpAny_setEntries_of hoa hda hfa (wpAny_pure ?_)))
  have core : ∀ (ad wk : Addr) (as ws : List Int) (R' : Unit → Shared → Prop), ad < s.heap.objs.size → wk < s.heap.objs.size → SetAt w s1.heap ad as → SetAt w s1.heap wk ws →
      (∀ h' d ks, SetAt w h' s.heap.objs.size ks → (∀ y, y ∈ ks ↔ y ∈ as ∧ y ∈ ws) → (∀ c o, c ≠ s.heap.objs.size → s1.heap.get? c = some o → h'.get? c = some o) → R' () { s1 with heap := h', drawn := d }) →
      wpAny (model prog w) A (do
        let was ← setEpoch wk
        let lst ← setWalkUnseen wk [ad, s.heap.objs.size] (some s.heap.objs.size)
        forIn lst PUnit.unit fun x _ => do
          holding [x.snd] do
            let fd ← setFind ad x.snd x.fst
            if fd.isSome = true then do
                let _ ← setAddHashed s.heap.objs.size x.snd x.fst
                pure ()
              else pure ()
          Builtin.Frozenset.unchanged idn wk was
          pure (ForInStep.yield PUnit.unit)
        pure ()) R' E s1 := by
    intro ad wk as ws R' lad lwk SA SW q
    obtain ⟨ow, ew, pw, tw, how, hxw, hdw, hew, hmw, hnw, hbw, hfw, htw⟩ := id SW
    refine wpAny_bind (wpAny_setEpoch_of how hdw hfw ?_)
    refine wpAny_bind (walkUnseen_of how hxw hdw hew (by rw [hmw]; exact hnw) (by rw [hmw]; exact hbw) hfw htw (fun c hc => ?_) R1' fun es' h2 d2 p2 sb2 R2 => ?_)
    · rcases List.mem_cons.mp hc with z | z
      · subst z; exact ⟨_, SA⟩
      · have z' : c = s.heap.objs.size := by simpa using z
        subst z'; exact ⟨_, R1'⟩
    · refine wpAny_bind ?_
      refine forIn_arr _ (fun rest _ s' => ∃ h' ks, s' = { s1 with heap := h', drawn := d2 } ∧ SetAt w h' s.heap.objs.size ks ∧ (∀ c o, c ≠ s.heap.objs.size → s1.heap.get? c = some o → h'.get? c = some o) ∧ (∀ e ∈ rest, e ∈ ew.toList) ∧
          (∀ y, y ∈ ks ↔ y ∈ as ∧ y ∈ ws ∧ y ∉ rest.map val) ∧ (rest.map val).Nodup ∧ ks.length + rest.length ≤ ew.size) _ ?_ ?_ es' _ ⟨h2, [], rfl, R2, fun c o hc e => (sb2.2 c hc).trans e, fun e he => p2.mem_iff.mp he, fun y => ?_, (p2.map val).nodup_iff.mpr (by rw [hmw]; exact hnw), ?_⟩
      · rintro ⟨hv, x⟩ rest r s' ⟨h', ks, rfl, SK, kk, hm, hks, hnd, hlen⟩
        obtain ⟨n, tk, e⟩ := hew _ (hm _ List.mem_cons_self)
        have e1 : hv = hashInt n := congrArg Prod.fst e
        have e2 : x = .int n tk := congrArg Prod.snd e
        subst e1; subst e2
        have SA' : SetAt w h' ad as := SA.keeps fun o z => kk ad o (Nat.ne_of_lt lad) z
        have hwk : ∀ g : Heap, (∀ c o, c ≠ s.heap.objs.size → s1.heap.get? c = some o → g.get? c = some o) → g.get? wk = some ow := fun g kg => kg wk ow (Nat.ne_of_lt lwk) how
        have hnw' : n ∈ ws := by
          rw [← hmw]; exact List.mem_map.mpr ⟨_, hm _ List.mem_cons_self, rfl⟩
        have hvn : (((hashInt n, Value.int n tk) :: rest).map val) = n :: rest.map val := rfl
        rw [hvn] at hnd hks
        obtain ⟨hn1, hn2⟩ := List.nodup_cons.mp hnd
        have unch : ∀ (g : Heap) (R'' : ForInStep PUnit → Shared → Prop), (∀ c o, c ≠ s.heap.objs.size → s1.heap.get? c = some o → g.get? c = some o) → R'' (.yield ⟨⟩) { s1 with heap := g, drawn := d2 } →
            wpAny (model prog w) A (do Builtin.Frozenset.unchanged idn wk pw; pure (ForInStep.yield PUnit.unit)) R'' E { s1 with heap := g, drawn := d2 } := fun g R'' kg hR => by
          unfold Builtin.Frozenset.unchanged
          refine wpAny_bind (wpAny_bind (wpAny_setEpoch_of (hwk g kg) hdw hfw ?_))
          rw [if_neg (by simp)]
          exact wpAny_pure (wpAny_pure hR)
        refine wpAny_bind (wpAny_holding ?_)
        refine wpAny_bind (find_int (k := n) (tk := tk) rfl SA' fun fr hfr => ?_)
        by_cases hin : n ∈ as
        · have e3 : fr.isSome = true := by rw [hfr]; exact decide_eq_true hin
          rw [if_pos e3]
          have hroom : ks.length + 1 < scanBound := by
            have z : ew.size < scanBound := by have := hbw; rw [← hmw] at this; simpa using this
            simp only [List.length_cons] at hlen
            have hz : ks.length + 1 ≤ ew.size := by omega
            rcases Nat.lt_or_eq_of_le hz with q1 | q1
            · exact Nat.lt_trans q1 z
            · rw [q1]; exact z
          refine wpAny_bind (add_int (k := n) (tk := tk) (s := { s1 with heap := h', drawn := d2 }) rfl SK hroom fun h3 ks3 sb3 SK3 m3 l3 => ?_)
          refine wpAny_pure ?_
          have kk3 : ∀ c o, c ≠ s.heap.objs.size → s1.heap.get? c = some o → h3.get? c = some o := fun c o hc z => (sb3.2 c hc).trans (kk c o hc z)
          refine unch h3 _ kk3 ⟨h3, ks3, rfl, SK3, kk3, fun e z => hm e (List.mem_cons_of_mem _ z), fun y => ?_, hn2, ?_⟩
          · rw [m3, hks]
            constructor
            · rintro (⟨q1, q2, q3⟩ | rfl)
              · exact ⟨q1, q2, fun z => q3 (List.mem_cons_of_mem _ z)⟩
              · exact ⟨hin, hnw', hn1⟩
            · rintro ⟨q1, q2, q3⟩
              by_cases z : y = n
              · exact .inr z
              · exact .inl ⟨q1, q2, fun z' => (List.mem_cons.mp z').elim z q3⟩
          · simp only [List.length_cons] at hlen; omega
        · have e3 : fr.isSome = false := by rw [hfr]; exact decide_eq_false hin
          rw [if_neg (by rw [e3]; simp)]
          refine wpAny_pure ?_
          refine unch h' _ kk ⟨h', ks, rfl, SK, kk, fun e z => hm e (List.mem_cons_of_mem _ z), fun y => ?_, hn2, ?_⟩
          · rw [hks]
            constructor
            · rintro ⟨q1, q2, q3⟩
              exact ⟨q1, q2, fun z => q3 (List.mem_cons_of_mem _ z)⟩
            · rintro ⟨q1, q2, q3⟩
              exact ⟨q1, q2, fun z' => (List.mem_cons.mp z').elim (fun z => hin (z ▸ q1)) q3⟩
          · simp only [List.length_cons] at hlen; omega
      · rintro _ s' ⟨h', ks, rfl, SK, kk, _, hks, _, _⟩
        exact wpAny_pure (q h' d2 ks SK (fun y => by rw [hks]; simp) kk)
      · constructor
        · intro z; exact absurd z (by simp)
        · rintro ⟨_, z1, z2⟩
          exfalso
          apply z2
          rw [(p2.map val).mem_iff, hmw]; exact z1
      · have := p2.length_eq; simp at this; simp [this]
  by_cases hc : eb.size > ea.size
  · simp only [hc, if_true]
    refine core b a ms ns _ lb la T1' S1' fun h' d ks q1 q2 q3 => ?_
    exact wpAny_pure (fin1 h' d ks q1 (fun y => by rw [q2]; exact And.comm) q3)
  · simp only [hc, if_false]
    refine core a b ns ms _ la lb S1' T1' fun h' d ks q1 q2 q3 => ?_
    exact wpAny_pure (fin1 h' d ks q1 q2 q3)
end
end SetX
namespace SetX
open PySem PyProof.Rows
theorem slot_si_next : Slot "set_iterator" "__next__" "set_iterator.__next__" :=
  .of (owner := "set_iterator") (n := "__next__") (by rw [typeLookup_type, builtinLookup_eq_fast]; kernel_rfl) (by decide +kernel) (by decide +kernel) (by decide +kernel) (by first | exact .inl (by decide +kernel) | exact .inr (by decide +kernel)) (by rw [isSubtype_type]; kernel_rfl)
theorem slot_si_iter : Slot "set_iterator" "__iter__" "set_iterator.__iter__" :=
  .of (owner := "set_iterator") (n := "__iter__") (by rw [typeLookup_type, builtinLookup_eq_fast]; kernel_rfl) (by decide +kernel) (by decide +kernel) (by decide +kernel) (by first | exact .inl (by decide +kernel) | exact .inr (by decide +kernel)) (by rw [isSubtype_type]; kernel_rfl)
theorem entry_si_next : entryFor table "set_iterator.__next__" = some Builtin.«set_iterator.__next__» := by first | exact entryFor_of_tree (by kernel_rfl) | exact entryFor_of_fast (by kernel_rfl)
theorem entry_si_iter : entryFor table "set_iterator.__iter__" = some Builtin.«dict_keyiterator.__iter__» := entryFor_alias (id' := "dict_keyiterator.__iter__") (by kernel_rfl) rfl (by decide +kernel) (by kernel_rfl)
theorem args_si_next (a : Value) : argsOk "set_iterator.__next__" ⟨[a], []⟩ := by unfold argsOk; kernel_rfl
theorem args_si_iter (a : Value) : argsOk "set_iterator.__iter__" ⟨[a], []⟩ := by unfold argsOk; kernel_rfl
theorem entry_set_iter : entryFor table "set.__iter__" = some Builtin.«frozenset.__iter__» := entryFor_alias (id' := "frozenset.__iter__") (by kernel_rfl) rfl (by decide +kernel) (by kernel_rfl)
theorem set_len_lookup : typeLookup (.type "set") "__len__" = pure (some (.builtin "set.__len__")) := by rw [typeLookup_type, builtinLookup_eq_fast]; kernel_rfl
end SetX
end
section
namespace SetX
open PySem PyProof.Rows
section
variable {prog : Program} {w : World} {A : Around} {E : Value → Shared → Prop} {s : Shared}
def SIter (h : Heap) (it : Addr) (first : Value) (i : Nat) (a : Addr) (n ep : Nat) : Prop :=
  h.get? it = some { cls := .type "set_iterator", dict := none, data := .fields #[first, rawInt i, .ref a, rawInt n, rawInt ep], slots := #[] }
theorem siter_self {it a : Addr} {first : Value} {i n ep : Nat} {Q : Value → Shared → Prop} (hit : SIter s.heap it first i a n ep) (h : Q (.ref it) s) : wpAny (model prog w) A (pyIter (.ref it)) Q E s := by
  have hT : s.TypeIs (.ref it) "set_iterator" := ⟨_, hit, rfl⟩
  refine wpAny_pyIter_slot hT slot_si_iter (wpAny_call_entry slot_si_iter hT entry_si_iter ?_ (args_si_iter _))
  show wpAny _ _ (ret (.ref it)) _ _ s
  exact wpAny_pure ⟨_, rfl, "set_iterator", _, hT, slot_si_next.lookup, h⟩
theorem next_slot {it a : Addr} {o : Obj} {es : Array (Int × Value)} {ep : Nat} {t : SetTable} {sl : Int} {i : Nat} {x : Value} {nx : Nat} {Q : Option Value → Shared → Prop} (ho : s.heap.get? a = some o) (hd : o.data = .set es ep t) (hf : t.fits es.size = true)
    (hit : SIter s.heap it (rawInt sl) i a es.size ep) (hn : ∀ (s : Shared) (A : Around) (Q : Option (Value × Nat) → Shared → Prop) (E : Value → Shared → Prop), s.heap.get? a = some o → Q (some (x, nx)) s → wpAny (model prog w) A (setNext a sl.toNat i ep) Q E s)
    (h : ∀ h', SIter h' it (rawInt nx) (i + 1) a es.size ep → Heap.SameBut it s.heap h' → Q (some x) { s with heap := h' }) : wpAny (model prog w) A (pyNext (.ref it)) Q E s := by
  have hT : s.TypeIs (.ref it) "set_iterator" := ⟨_, hit, rfl⟩
  unfold pyNext
  refine wpAny_bind (wpAny_attempt (wpAny_callSpecial?_slot (name := Str.ofString "__next__") hT slot_si_next (wpAny_call_entry slot_si_next hT entry_si_next ?_ (args_si_next _))))
  unfold Builtin.«set_iterator.__next__»
  refine wpAny_bind (wpAny_pure ?_)
  refine wpAny_bind (wpAny_fieldsOf hit rfl ?_)
  show wpAny _ _ (setEntries a >>= _) _ _ _
  refine wpAny_bind (wpAny_setEntries_of ho hd hf ?_)
  rw [if_neg (by simp)]
  show wpAny _ _ (setNext a sl.toNat ((i : Nat) : Int).toNat ((ep : Nat) : Int).toNat >>= _) _ _ _
  simp only [Int.toNat_natCast]
  refine wpAny_bind (hn _ _ _ _ ho ?_)
  dsimp only
  refine wpAny_bind (wpAny_setField_rec hit (by simp) fun h1 e1 sb1 => ?_)
  refine wpAny_bind (wpAny_setField_rec (s := { s with heap := h1 }) e1 (by simp) fun h2 e2 sb2 => ?_)
  have sb2' : Heap.SameBut it h1 h2 := sb2
  refine wpAny_pure ⟨x, rfl, wpAny_pure (h h2 ?_ (sb1.trans sb2'))⟩
  have e2' : h2.get? it = some { cls := .type "set_iterator", dict := none, data := .fields ((#[rawInt sl, rawInt i, .ref a, rawInt es.size, rawInt ep].setIfInBounds 0 (rawInt nx)).setIfInBounds 1 (rawInt ((i : Int) + 1))), slots := #[] } := e2
  unfold SIter
  rw [e2']
  simp [rawInt]
theorem stop_tail {it : Addr} {cls : Value} {vs : Array Value} {Q : Option Value → Shared → Prop} (hh : A.handled = none) (hit : s.heap.get? it = some { cls := cls, dict := none, data := .fields vs, slots := #[] }) (hk : 2 < vs.size) {R : Fin → Shared → Prop} {E' : Value → Shared → Prop}
    (h : ∀ h' e, Heap.ExtBut it s.heap h' → (∃ o, h'.get? e = some o ∧ o.cls = .type "StopIteration") → E' (.ref e) { s with heap := h' }) : wpAny (model prog w) A (do setField (.ref it) 2 .none; raiseNew (← newExc (.type "StopIteration") [])) R E' s := by
  refine wpAny_bind (wpAny_setField_rec hit hk fun h1 e1 sb1 => ?_)
  show wpAny _ _ (newExc (.type "StopIteration") [] >>= _) _ _ _
  refine wpAny_bind ?_; simp only [newExc, newTuple]; refine wpAny_bind (wpAny_newObj_type ?_ (by size_fits))
  refine wpAny_bind (m := firstArgMember _ _) (wpAny_of_eq (a := Value.none) (by first | rfl | (simp only [firstArgMember]; rfl)) ?_); refine wpAny_newObj_type ?_ (by size_fits)
  simp only [raiseNew]; refine wpAny_bind (wpAny_handled ?_); rw [hh]
  refine wpAny_bind (wpAny_pure (wpAny_throw ?_)); exact h _ _ ((sb1.extBut.push _).push _) ⟨_, Heap.get?_push_size _ rfl, rfl⟩
theorem end_slot {it a : Addr} {o : Obj} {es : Array (Int × Value)} {ep : Nat} {t : SetTable} {sl : Int} {i : Nat} {Q : Option Value → Shared → Prop} (hh : A.handled = none) (ho : s.heap.get? a = some o) (hd : o.data = .set es ep t) (hf : t.fits es.size = true)
    (hit : SIter s.heap it (rawInt sl) i a es.size ep) (hn : ∀ (s : Shared) (A : Around) (Q : Option (Value × Nat) → Shared → Prop) (E : Value → Shared → Prop), s.heap.get? a = some o → Q none s → wpAny (model prog w) A (setNext a sl.toNat i ep) Q E s)
    (h : ∀ h', Heap.ExtBut it s.heap h' → Q none { s with heap := h' }) : wpAny (model prog w) A (pyNext (.ref it)) Q E s := by
  have hT : s.TypeIs (.ref it) "set_iterator" := ⟨_, hit, rfl⟩
  unfold pyNext
  refine wpAny_bind (wpAny_attempt (wpAny_callSpecial?_slot (name := Str.ofString "__next__") hT slot_si_next (wpAny_call_entry slot_si_next hT entry_si_next ?_ (args_si_next _))))
  unfold Builtin.«set_iterator.__next__»
  refine wpAny_bind (wpAny_pure ?_)
  refine wpAny_bind (wpAny_fieldsOf hit rfl ?_)
  show wpAny _ _ (setEntries a >>= _) _ _ _
  refine wpAny_bind (wpAny_setEntries_of ho hd hf ?_)
  rw [if_neg (by simp)]
  show wpAny _ _ (setNext a sl.toNat ((i : Nat) : Int).toNat ((ep : Nat) : Int).toNat >>= _) _ _ _
  simp only [Int.toNat_natCast]
  refine wpAny_bind (hn _ _ _ _ ho ?_)
  dsimp only
  refine stop_tail (Q := Q) (A := A.in1) hh hit (by simp) fun h' e eb ⟨oe, q1, q2⟩ => ?_
  refine wpAny_bind (wpAny_isInstance (T := "StopIteration") (b := true) ⟨oe, q1, q2⟩ isSubtype_stop ?_)
  exact wpAny_pure (h _ eb)
theorem next_drawn {it a p : Addr} {o : Obj} {es : Array (Int × Value)} {ep : Nat} {t : SetTable} {ys : List Nat} {i j : Nat} {hx : Int} {x : Value} {Q : Option Value → Shared → Prop} (ho : s.heap.get? a = some o) (hd : o.data = .set es ep t) (hf : t.fits es.size = true)
    (hp : s.heap.get? p = some { cls := .type "tuple", data := .seq (ys.map fun (k : Nat) => rawInt k).toArray }) (hit : SIter s.heap it (.ref p) i a es.size ep) (hy : ys[i]? = some j) (hj : es[j]? = some (hx, x))
    (h : ∀ h', SIter h' it (.ref p) (i + 1) a es.size ep → Heap.SameBut it s.heap h' → Q (some x) { s with heap := h' }) : wpAny (model prog w) A (pyNext (.ref it)) Q E s := by
  have hT : s.TypeIs (.ref it) "set_iterator" := ⟨_, hit, rfl⟩
  unfold pyNext
  refine wpAny_bind (wpAny_attempt (wpAny_callSpecial?_slot (name := Str.ofString "__next__") hT slot_si_next (wpAny_call_entry slot_si_next hT entry_si_next ?_ (args_si_next _))))
  unfold Builtin.«set_iterator.__next__»
  refine wpAny_bind (wpAny_pure ?_)
  refine wpAny_bind (wpAny_fieldsOf hit rfl ?_)
  show wpAny _ _ (setEntries a >>= _) _ _ _
  refine wpAny_bind (wpAny_setEntries_of ho hd hf ?_)
  rw [if_neg (by simp)]
  show wpAny _ _ (seqItems? (.ref p) >>= _) _ _ _
  refine wpAny_bind (wpAny_seqItems hp rfl ?_)
  have e0 : (ys.map fun (k : Nat) => rawInt k).toArray[((i : Nat) : Int).toNat]? = some (rawInt (j : Int)) := by
    rw [Int.toNat_natCast]; simp [hy]
  dsimp only
  show wpAny _ _ (match (ys.map fun (k : Nat) => rawInt k).toArray[((i : Nat) : Int).toNat]? with | some (.int place _) => _ | some _ => _ | none => _) _ _ _
  rw [e0]
  show wpAny _ _ (setNextDrawn a ((j : Nat) : Int).toNat ((ep : Nat) : Int).toNat >>= _) _ _ _
  simp only [Int.toNat_natCast]
  unfold setNextDrawn
  refine wpAny_bind (wpAny_bind (wpAny_setState_of ho hd hf ?_))
  dsimp only
  rw [if_neg (by simp), hj]
  refine wpAny_pure ?_
  refine wpAny_bind (wpAny_setField_rec hit (by simp) fun h2 e2 sb2 => ?_)
  refine wpAny_pure ⟨x, rfl, wpAny_pure (h h2 ?_ sb2)⟩
  unfold SIter
  rw [e2]
  simp [rawInt]
theorem end_drawn {it a p : Addr} {o : Obj} {es : Array (Int × Value)} {ep : Nat} {t : SetTable} {ys : List Nat} {i : Nat} {Q : Option Value → Shared → Prop} (hh : A.handled = none) (ho : s.heap.get? a = some o) (hd : o.data = .set es ep t) (hf : t.fits es.size = true)
    (hp : s.heap.get? p = some { cls := .type "tuple", data := .seq (ys.map fun (k : Nat) => rawInt k).toArray }) (hit : SIter s.heap it (.ref p) i a es.size ep) (hy : ys[i]? = none)
    (h : ∀ h', Heap.ExtBut it s.heap h' → Q none { s with heap := h' }) : wpAny (model prog w) A (pyNext (.ref it)) Q E s := by
  have hT : s.TypeIs (.ref it) "set_iterator" := ⟨_, hit, rfl⟩
  unfold pyNext
  refine wpAny_bind (wpAny_attempt (wpAny_callSpecial?_slot (name := Str.ofString "__next__") hT slot_si_next (wpAny_call_entry slot_si_next hT entry_si_next ?_ (args_si_next _))))
  unfold Builtin.«set_iterator.__next__»
  refine wpAny_bind (wpAny_pure ?_)
  refine wpAny_bind (wpAny_fieldsOf hit rfl ?_)
  show wpAny _ _ (setEntries a >>= _) _ _ _
  refine wpAny_bind (wpAny_setEntries_of ho hd hf ?_)
  rw [if_neg (by simp)]
  show wpAny _ _ (seqItems? (.ref p) >>= _) _ _ _
  refine wpAny_bind (wpAny_seqItems hp rfl ?_)
  have e0 : (ys.map fun (k : Nat) => rawInt k).toArray[((i : Nat) : Int).toNat]? = none := by
    rw [Int.toNat_natCast]; simpa using hy
  dsimp only
  show wpAny _ _ (match (ys.map fun (k : Nat) => rawInt k).toArray[((i : Nat) : Int).toNat]? with | some (.int place _) => _ | some _ => _ | none => _) _ _ _
  rw [e0]
  dsimp only
  refine wpAny_bind (wpAny_setField_rec hit (by simp) fun h2 e2 sb2 => ?_)
  refine stop_tail (Q := Q) (A := A.in1) (s := { s with heap := h2 }) hh e2 (by simp) fun h' e eb ⟨oe, q1, q2⟩ => ?_
  have eb' : Heap.ExtBut it h2 h' := eb
  refine wpAny_bind (wpAny_isInstance (s := { s with heap := h' }) (T := "StopIteration") (b := true) ⟨oe, q1, q2⟩ isSubtype_stop ?_)
  exact wpAny_pure (h _ fun b ob hb z => eb' b ob hb ((sb2.2 b hb).trans z))
end
end SetX
end
section
namespace SetX
open PySem PyProof.Rows
section
variable {prog : Program} {w : World} {A : Around} {E : Value → Shared → Prop} {s : Shared}
theorem setNext_text {a : Addr} {o : Obj} {es : Array (Int × Value)} {ep : Nat} {t : SetTable} {sl i : Nat} {Q : Option (Value × Nat) → Shared → Prop} (ho : s.heap.get? a = some o) (hd : o.data = .set es ep t) (hf : t.fits es.size = true)
    (hb : w.params.followText "set-order" = true) (h : Q (((pickOrder (w.params.setOrder a ep) es)[i]?).map fun e => (e.2, sl)) s) : wpAny (model prog w) A (setNext a sl i ep) Q E s := by
  unfold setNext setsByText
  refine wpAny_bind (wpAny_setState_of ho hd hf ?_); dsimp only
  refine wpAny_bind (wpAny_bind (wpAny_askSetting (wpAny_pure ?_)))
  have hb' : (model prog w).w.params.followText "set-order" = true := hb
  dsimp only
  rw [if_pos hb', if_neg (by simp)]
  unfold setWalk setsByText
  refine wpAny_bind (wpAny_bind (wpAny_setState_of ho hd hf ?_)); dsimp only
  refine wpAny_bind (wpAny_bind (wpAny_askSetting (wpAny_pure ?_)))
  dsimp only
  rw [if_pos hb']
  exact wpAny_bind (wpAny_askSetting (wpAny_pure (wpAny_pure h)))
theorem setNext_led {a : Addr} {o : Obj} {es : Array (Int × Value)} {ep : Nat} {t : SetTable} {sl i : Nat} {Q : Option (Value × Nat) → Shared → Prop} (ho : s.heap.get? a = some o) (hd : o.data = .set es ep t) (hf : t.fits es.size = true)
    (hb : ¬ w.params.followText "set-order" = true) (hl : t.led = true) (hdr : ¬ (!t.plain && decide (es.size > 1)) = true) (h : Q (match es[SetTable.below t.place sl]?, t.place[SetTable.below t.place sl]? with | some (_, x), some j => some (x, j + 1) | _, _ => none) s) :
    wpAny (model prog w) A (setNext a sl i ep) Q E s := by
  unfold setNext setsByText
  refine wpAny_bind (wpAny_setState_of ho hd hf ?_); dsimp only
  refine wpAny_bind (wpAny_bind (wpAny_askSetting (wpAny_pure ?_)))
  have hb' : ¬ (model prog w).w.params.followText "set-order" = true := hb
  dsimp only
  rw [if_neg hb']
  show wpAny _ _ (if (!t.plain && decide (es.size > 1)) = true then _ else _) _ _ _
  rw [if_neg hdr]
  refine wpAny_bind ?_
  show wpAny _ _ (if (!t.led && !es.isEmpty) = true then _ else _) _ _ _
  rw [hl]
  simp only [Bool.not_true, Bool.false_and, Bool.false_eq_true, if_false]
  exact wpAny_pure (wpAny_pure h)
def slotAt (t : SetTable) (i : Nat) : Nat := if i = 0 then 0 else t.place.getD (i - 1) 0 + 1
theorem below_slotAt {t : SetTable} (R : Rise t.place) {i : Nat} (hi : i ≤ t.place.size) : SetTable.below t.place (slotAt t i) = i := by
  obtain ⟨h1, h2, h3⟩ := below_spec R (slotAt t i)
  by_cases h0 : i = 0
  · subst h0
    have e : slotAt t 0 = 0 := by simp [slotAt]
    rw [e] at h2 ⊢
    by_cases z : SetTable.below t.place 0 = 0
    · exact z
    · have := h2 0 (by omega)
      omega
  · have e : slotAt t i = t.place.getD (i - 1) 0 + 1 := by simp [slotAt, h0]
    rw [e] at h1 h2 h3 ⊢
    rcases Nat.lt_trichotomy (SetTable.below t.place (t.place.getD (i - 1) 0 + 1)) i with z | z | z
    · have q := h3 (i - 1) (by omega) (by omega)
      omega
    · exact z
    · have q := h2 i z
      have q2 := R (i - 1) i (by omega) (by omega)
      omega
theorem fits_size {t : SetTable} {n : Nat} (h : t.fits n = true) : t.place.size = n := by
  unfold SetTable.fits at h
  simp only [Bool.and_eq_true, beq_iff_eq] at h
  exact h.1
abbrev Gid : Array GenState → Array GenState → Prop := fun a b => b = a
theorem moved_of {I : Addr} {h' : Heap} (hk : ∀ b o, b ≠ I → s.heap.get? b = some o → h'.get? b = some o) : Moved [I] Gid s { s with heap := h' } := ⟨fun b o hb e => hk b o (fun z => hb (by simp [z])) e, rfl, rfl, rfl, Nat.le_refl _⟩
theorem set_iter {Q : Value → Shared → Prop} {a : Addr} {ns : List Int} (S : SetAt w s.heap a ns)
    (h : ∀ (it : Addr) (fp : List Addr) (P : Nat → Value → Prop) (St : Nat → Shared → Prop) (ord : List (Int × Value)) (s1 : Shared), (∀ A' : Around, A'.handled = none → WalksS prog w A' it fp [it] Gid ord.length P St) → St 0 s1 → (∀ i v, P i v → ∃ e, ord[i]? = some e ∧ v = e.2) → Ent ord → List.Perm (ord.map val) ns →
      (∀ b ∈ fp, b < s1.heap.objs.size) → it ∈ fp → (∀ b o, s.heap.get? b = some o → s1.heap.get? b = some o) → s1.gens = s.gens → s1.os = s.os → s.toks ≤ s1.toks → (∀ i s', St i s' → s'.TypeIs (.ref it) "set_iterator") → (∀ b ∈ fp, b = a ∨ s.heap.objs.size ≤ b) → s.heap.objs.size ≤ it → Q (.ref it) s1) :
    wpAny (model prog w) A (pyIter (.ref a)) Q E s := by
  obtain ⟨o, es, ep, t, ho, hex, hd, he, rfl, hn, hb, hf, ht⟩ := id S
  have hT := S.ty
  have hsz := fits_size hf
  refine wpAny_pyIter_slot hT F.slot_set_iter (wpAny_call_entry F.slot_set_iter hT entry_set_iter ?_ (F.args_set_iter_1 _))
  unfold Builtin.«frozenset.__iter__»
  refine wpAny_bind (m := Builtin.Frozenset.slot0 "__iter__" _) (wpAny_pure ?_)
  unfold Builtin.Frozenset.sizeOf
  refine wpAny_bind (wpAny_bind (wpAny_setEntries_of ho hd hf (wpAny_pure ?_)))
  unfold setDrawn setsByText
  refine wpAny_bind (wpAny_bind (wpAny_setState_of ho hd hf ?_)); dsimp only
  refine wpAny_bind (wpAny_bind (wpAny_askSetting (wpAny_pure ?_)))
  refine wpAny_pure ?_
  show wpAny _ _ (if (!((model prog w).w.params.followText "set-order") && (!t.plain && decide (es.size > 1))) = true then _ else _) _ _ _
  have la : a < s.heap.objs.size := Heap.lt_size ho
  by_cases hdr : (!(w.params.followText "set-order") && (!t.plain && decide (es.size > 1))) = true
  · rw [if_pos (show (!((model prog w).w.params.followText "set-order") && (!t.plain && decide (es.size > 1))) = true from hdr)]
    refine wpAny_bind (drawOrder_of _ _ _ _ (by simp) fun ys d p => ?_)
    have hyl : ys.length = es.size := by have := p.length_eq; simpa using this
    have hz64 : es.size ≤ sizeLine := fits_line (by simpa using hb)
    have hy : ∀ (i : Nat), i < es.size → ∃ j e, ys[i]? = some j ∧ es[j]? = some e := fun i hi => by
      have h1 : i < ys.length := by omega
      have hm : ys[i] ∈ List.range es.size := p.mem_iff.mp (List.getElem_mem h1)
      have hm' : ys[i] < es.size := by simpa using hm
      exact ⟨ys[i], es[ys[i]], by simp [h1], by simp [hm']⟩
    refine wpAny_bind (wpAny_newTuple (items := ys.map fun (i : Nat) => rawInt (i : Int)) ?_ (by rw [List.length_map, hyl]; exact hz64))
    refine wpAny_bind (wpAny_setEpoch_of (o := o) (Heap.get?_push_of_some _ ho) hd hf ?_)
    show wpAny _ _ (newFields "set_iterator" _ >>= _) _ _ _
    refine wpAny_bind (wpAny_newObj_type ?_)
    refine wpAny_pure ⟨_, rfl, ?_⟩
    generalize hh1 : s.heap.push { cls := .type "tuple", data := .seq (List.map (fun (i : Nat) => rawInt (i : Int)) ys).toArray } = h1
    have e1 : h1.objs.size = s.heap.objs.size + 1 := by rw [← hh1]; exact Heap.size_push ..
    have hp1 : h1.get? s.heap.objs.size = some { cls := .type "tuple", data := .seq (ys.map fun (k : Nat) => rawInt k).toArray } := by rw [← hh1]; exact Heap.get?_push_size _ rfl
    have k1 : ∀ b o, s.heap.get? b = some o → h1.get? b = some o := fun b ob z => by rw [← hh1]; exact Heap.get?_push_of_some _ z
    generalize hh2 : h1.push { cls := .type "set_iterator", dict := none, data := .fields [Value.ref s.heap.objs.size, rawInt 0, .ref a, rawInt es.size, rawInt ep].toArray } = h2
    have k2 : ∀ b o, h1.get? b = some o → h2.get? b = some o := fun b ob z => by rw [← hh2]; exact Heap.get?_push_of_some _ z
    have hit : SIter h2 h1.objs.size (.ref s.heap.objs.size) 0 a es.size ep := by rw [← hh2]; exact Heap.get?_push_size _ rfl
    refine ⟨"set_iterator", _, ⟨_, hit, rfl⟩, slot_si_next.lookup, ?_⟩
    have nia : a ≠ h1.objs.size := by rw [e1]; exact Nat.ne_of_lt (Nat.lt_succ_of_lt la)
    have nip : s.heap.objs.size ≠ h1.objs.size := by rw [e1]; exact Nat.ne_of_lt (Nat.lt_succ_self _)
    refine h h1.objs.size [h1.objs.size, a, s.heap.objs.size] (fun i v => ∃ e, (ys.filterMap (es[·]?))[i]? = some e ∧ v = e.2) (fun i s' => SIter s'.heap h1.objs.size (.ref s.heap.objs.size) i a es.size ep ∧ s'.heap.get? a = some o ∧ s'.heap.get? s.heap.objs.size = some { cls := .type "tuple", data := .seq (ys.map fun (k : Nat) => rawInt k).toArray })
      (ys.filterMap (es[·]?)) _ (fun A' hA' => ?_) ⟨hit, k2 _ _ (k1 _ _ ho), k2 _ _ hp1⟩ (fun i v z => z) ?_ ?_ (fun b hb' => ?_) (by simp) (fun b ob z => k2 _ _ (k1 _ _ z)) rfl rfl (Nat.le_refl _) (fun i s' st => ⟨_, st.1, rfl⟩) (fun b hb' => ?_) (by rw [e1]; exact Nat.le_succ _)
    · have hfm : ∀ (i : Nat), (ys.filterMap (es[·]?))[i]? = (ys[i]?).bind (es[·]?) := by
        have all : ∀ l : List Nat, (∀ j ∈ l, j < es.size) → ∀ (i : Nat), (l.filterMap (es[·]?))[i]? = (l[i]?).bind (es[·]?) := by
          intro l
          induction l with
          | nil => intro _ i; simp
          | cons j r ih =>
            intro hl i
            have hj : j < es.size := hl j List.mem_cons_self
            rw [List.filterMap_cons, Array.getElem?_eq_getElem hj]
            dsimp only
            cases i with
            | zero => simp [hj]
            | succ i => simpa using ih (fun j' z => hl j' (List.mem_cons_of_mem _ z)) i
        exact all ys fun j z => by simpa using p.mem_iff.mp z
      have hlen : (ys.filterMap (es[·]?)).length = es.size := by
        have q : List.Perm (ys.filterMap (es[·]?)) es.toList := (p.filterMap _).trans (by rw [filterMap_getElem?_range])
        simpa using q.length_eq
      rw [hlen]
      exact { sub := fun b z => by simp at z; simp [z], grefl := fun _ => rfl, gtrans := fun _ _ _ z1 z2 => z2.trans z1,
              frame := fun i s' h' tk st _ hk => ⟨hk _ (by simp) _ st.1, hk _ (by simp) _ st.2.1, hk _ (by simp) _ st.2.2⟩,
              item := fun i s' Q' E' hi st hQ => by
                obtain ⟨j, e, hj, hej⟩ := hy i hi
                obtain ⟨hx, x⟩ := e
                refine next_drawn st.2.1 hd hf st.2.2 st.1 hj hej fun h' st' sb => hQ x { s' with heap := h' } ⟨(hx, x), by rw [hfm, hj]; exact hej, rfl⟩ ⟨st', (sb.2 _ nia).trans st.2.1, (sb.2 _ nip).trans st.2.2⟩ (moved_of fun b ob hb' z => (sb.2 b hb').trans z),
              done := fun s' Q' E' st hQ => end_drawn hA' st.2.1 hd hf st.2.2 st.1 (by simp [hyl]) fun h' eb => hQ { s' with heap := h' } (moved_of fun b ob hb' z => eb b ob hb' z),
              self := fun i s' Q' E' st hQ => siter_self st.1 hQ }
    · intro e z
      obtain ⟨j, _, hj⟩ := List.mem_filterMap.mp z
      exact he e (by obtain ⟨hj1, hj2⟩ := Array.getElem?_eq_some_iff.mp hj; rw [← hj2]; exact Array.getElem_mem_toList hj1)
    · have q : List.Perm (ys.filterMap (es[·]?)) es.toList := (p.filterMap _).trans (by rw [filterMap_getElem?_range])
      exact q.map val
    · have z2 : h2.objs.size = h1.objs.size + 1 := by rw [← hh2]; exact Heap.size_push ..
      show b < h2.objs.size
      rw [z2, e1]
      simp only [List.mem_cons, List.mem_singleton, List.not_mem_nil, or_false] at hb'
      rcases hb' with z | z | z
      · rw [z, e1]; exact Nat.lt_succ_self _
      · rw [z]; exact Nat.lt_succ_of_lt (Nat.lt_succ_of_lt la)
      · rw [z]; exact Nat.lt_succ_of_lt (Nat.lt_succ_self _)
    · simp only [List.mem_cons, List.mem_singleton, List.not_mem_nil, or_false] at hb'
      rcases hb' with z | z | z
      · right; rw [z, e1]; exact Nat.le_succ _
      · exact .inl z
      · right; rw [z]; exact Nat.le_refl _
  · rw [if_neg (show ¬ (!((model prog w).w.params.followText "set-order") && (!t.plain && decide (es.size > 1))) = true from hdr)]
    refine wpAny_bind (wpAny_pure ?_)
    refine wpAny_bind (wpAny_setEpoch_of ho hd hf ?_)
    show wpAny _ _ (newFields "set_iterator" _ >>= _) _ _ _
    refine wpAny_bind (wpAny_newObj_type ?_)
    refine wpAny_pure ⟨_, rfl, ?_⟩
    generalize hh2 : s.heap.push { cls := .type "set_iterator", dict := none, data := .fields [rawInt 0, rawInt 0, .ref a, rawInt es.size, rawInt ep].toArray } = h2
    have k2 : ∀ b o, s.heap.get? b = some o → h2.get? b = some o := fun b ob z => by rw [← hh2]; exact Heap.get?_push_of_some _ z
    have hit : SIter h2 s.heap.objs.size (rawInt 0) 0 a es.size ep := by rw [← hh2]; exact Heap.get?_push_size _ rfl
    have nia : a ≠ s.heap.objs.size := Nat.ne_of_lt la
    refine ⟨"set_iterator", _, ⟨_, hit, rfl⟩, slot_si_next.lookup, ?_⟩
    have lts : ∀ b ∈ [s.heap.objs.size, a], b < h2.objs.size := fun b hb' => by
      have z2 : h2.objs.size = s.heap.objs.size + 1 := by rw [← hh2]; exact Heap.size_push ..
      rw [z2]
      simp only [List.mem_cons, List.mem_singleton, List.not_mem_nil, or_false] at hb'
      rcases hb' with z | z
      · rw [z]; exact Nat.lt_succ_self _
      · rw [z]; exact Nat.lt_succ_of_lt la
    have go : ∀ (ord : List (Int × Value)) (sl : Nat → Nat), ord.length = es.size → sl 0 = 0 → List.Perm ord es.toList →
        (∀ (i : Nat) (e : Int × Value), ord[i]? = some e → ∀ (s : Shared) (A : Around) (Q : Option (Value × Nat) → Shared → Prop) (E : Value → Shared → Prop), s.heap.get? a = some o → Q (some (e.2, sl (i + 1))) s → wpAny (model prog w) A (setNext a ((sl i : Nat) : Int).toNat i ep) Q E s) →
        (∀ (s : Shared) (A : Around) (Q : Option (Value × Nat) → Shared → Prop) (E : Value → Shared → Prop), s.heap.get? a = some o → Q none s → wpAny (model prog w) A (setNext a ((sl es.size : Nat) : Int).toNat es.size ep) Q E s) →
        Q (.ref s.heap.objs.size) { s with heap := h2 } := by
      intro ord sl hol hsl0 hop hnx hend
      refine h s.heap.objs.size [s.heap.objs.size, a] (fun i v => ∃ e, ord[i]? = some e ∧ v = e.2) (fun i s' => SIter s'.heap s.heap.objs.size (rawInt (sl i)) i a es.size ep ∧ s'.heap.get? a = some o) ord _ (fun A' hA' => ?_) ⟨by rw [hsl0]; exact hit, k2 _ _ ho⟩ (fun i v z => z)
        (he.perm hop) (hop.map val) lts (by simp) (fun b ob z => k2 _ _ z) rfl rfl (Nat.le_refl _) (fun i s' st => ⟨_, st.1, rfl⟩) (fun b hb' => (by
          simp only [List.mem_cons, List.mem_singleton, List.not_mem_nil, or_false] at hb'
          rcases hb' with z | z
          · right; rw [z]; exact Nat.le_refl _
          · exact .inl z)) (Nat.le_refl _)
      rw [hol]
      exact { sub := fun b z => by simp at z; simp [z], grefl := fun _ => rfl, gtrans := fun _ _ _ z1 z2 => z2.trans z1,
              frame := fun i s' h' tk st _ hk => ⟨hk _ (by simp) _ st.1, hk _ (by simp) _ st.2⟩,
              item := fun i s' Q' E' hi st hQ => by
                have hi' : i < ord.length := by omega
                have hoi : ord[i]? = some ord[i] := by simp [hi']
                refine next_slot (x := ord[i].2) (nx := sl (i + 1)) st.2 hd hf st.1 (hnx i _ hoi) fun h' st' sb => hQ _ { s' with heap := h' } ⟨_, hoi, rfl⟩ ⟨st', (sb.2 _ nia).trans st.2⟩ (moved_of fun b ob hb' z => (sb.2 b hb').trans z),
              done := fun s' Q' E' st hQ => end_slot hA' st.2 hd hf st.1 hend fun h' eb => hQ { s' with heap := h' } (moved_of fun b ob hb' z => eb b ob hb' z),
              self := fun i s' Q' E' st hQ => siter_self st.1 hQ }
    by_cases hbt : w.params.followText "set-order" = true
    · have hpp := pickOrder_perm (w.params.setOrder a ep) es
      have hpl : (pickOrder (w.params.setOrder a ep) es).size = es.size := by have := hpp.length_eq; simpa using this
      refine go (pickOrder (w.params.setOrder a ep) es).toList (fun _ => 0) (by simpa using hpl) rfl hpp (fun i e hie s' A' Q' E' ho' q => ?_) fun s' A' Q' E' ho' q => ?_
      · refine setNext_text ho' hd hf hbt ?_
        have : (pickOrder (w.params.setOrder a ep) es)[i]? = some e := by simpa using hie
        rw [this]; exact q
      · refine setNext_text ho' hd hf hbt ?_
        have : (pickOrder (w.params.setOrder a ep) es)[es.size]? = none := by simp [hpl]
        rw [this]; exact q
    · have hl : t.led = true := by rw [ht.led]; unfold ledOf; simp [hbt]
      have hdr' : ¬ (!t.plain && decide (es.size > 1)) = true := fun z => hdr (by rw [z]; simp [hbt])
      refine go es.toList (slotAt t) (by simp) rfl .rfl (fun i e hie s' A' Q' E' ho' q => ?_) fun s' A' Q' E' ho' q => ?_
      · refine setNext_led ho' hd hf hbt hl hdr' ?_
        have hi : i < es.size := by have := (List.getElem?_eq_some_iff.mp hie).1; simpa using this
        rw [Int.toNat_natCast, below_slotAt ht.rise (by omega)]
        have e1 : es[i]? = some e := by simpa using hie
        have e2 : t.place[i]? = some (t.place.getD i 0) := by rw [getD_nat t.place i 0 (by omega)]; simp [show i < t.place.size by omega]
        rw [e1, e2]
        obtain ⟨hx, x⟩ := e
        have e3 : slotAt t (i + 1) = t.place.getD i 0 + 1 := by simp [slotAt]
        rw [e3] at q
        exact q
      · refine setNext_led ho' hd hf hbt hl hdr' ?_
        rw [Int.toNat_natCast, below_slotAt ht.rise (by omega)]
        have e1 : es[es.size]? = none := by simp
        rw [e1]
        exact q
end
end SetX
end
section
namespace SetX
open PySem PyProof.Rows
section
variable {prog : Program} {w : World} {A : Around} {E : Value → Shared → Prop} {s : Shared}
theorem and_setsX {Q : Value → Shared → Prop} {a b : Addr} {ns ms : List Int} (hab : b ≠ a) (S : SetAt w s.heap a ns) (T : SetAt w s.heap b ms)
    (h : ∀ h' d ks, SetAt w h' s.heap.objs.size ks → (∀ y, y ∈ ks ↔ y ∈ ns ∧ y ∈ ms) → (∀ c o, s.heap.get? c = some o → h'.get? c = some o) → Q (.ref s.heap.objs.size) { s with heap := h', drawn := d }) :
    wpAny (model prog w) A (binaryOp .BitAnd (.ref a) (.ref b)) Q E s := by
  refine wpAny_binaryOp_same S.ty T.ty F.fills_set_and F.slot_set_and (wpAny_call_entry F.slot_set_and S.ty entry_set_and ?_ (F.args_set_and_2 _ _))
  show wpAny _ _ (Builtin.Frozenset.slot1 "__and__" ⟨[.ref a, .ref b], []⟩ >>= _) _ _ _
  refine wpAny_bind (wpAny_pure ?_)
  show wpAny _ _ ((Builtin.Frozenset.isAnySet (.ref a) >>= _) >>= _) _ _ _
  refine wpAny_bind (wpAny_bind (anySet_of S ?_))
  show wpAny _ _ (Builtin.Frozenset.isAnySet (.ref b)) _ _ _
  refine anySet_of T ?_
  show wpAny _ _ (Builtin.Frozenset.intersection _ a (.ref b) >>= _) _ _ _
  refine wpAny_bind (inter_of hab S T fun h' d ks q1 q2 q3 => ?_)
  exact wpAny_pure ⟨_, rfl, by simp, h h' d ks q1 q2 q3⟩
theorem len_setX {Q : Value → Shared → Prop} {a : Addr} {ns : List Int} (S : SetAt w s.heap a ns) (h : ∀ t tk, Q (.int ns.length t) { s with toks := tk }) : wpAny (model prog w) A (call (.builtin "len") [.ref a]) Q E s := by
  obtain ⟨o, es, ep, t, ho, hex, hd, he, rfl, hn, hb, hf, ht⟩ := S
  have hz : es.size < scanBound := by simpa using hb
  refine call_len_set ho hex hd hf (by have : scanBound = 4096 := rfl; omega) ?_
  have e : (es.toList.map val).length = es.size := by simp
  rw [e] at h
  exact h _ _
theorem collect_set {Q : List Value → Shared → Prop} {a : Addr} {ns : List Int} (hh : A.handled = none) (S : SetAt w s.heap a ns)
    (h : ∀ s' vs ms, (∀ b o, s.heap.get? b = some o → s'.heap.get? b = some o) → s'.gens = s.gens → s'.os = s.os → s.heap.objs.size ≤ s'.heap.objs.size → IntsAre vs ms → List.Perm ms ns → Q vs s') : wpAny (model prog w) A (collect (.ref a)) Q E s := by
  have la : a < s.heap.objs.size := by obtain ⟨o, _, _, _, e, _⟩ := S; exact Heap.lt_size e
  unfold collect
  refine wpAny_bind (wpAny_runValue (codeAny_builtin F.entry_proto_collect ?_)); rw [Around.under_plainId F.plain_proto_collect _]
  show wpAny _ A.in1 (newList [] >>= fun l => again (.builtin "list.__iadd__" ⟨[l, .ref a], []⟩)) _ _ s
  refine wpAny_bind (wpAny_newObj_type ?_)
  refine wpAny_pure ⟨plainId_quiet F.plain_list_iadd _, codeAny_builtin F.entry_list_iadd ?_⟩; rw [Around.under_plainId F.plain_list_iadd _]
  generalize hh1 : s.heap.push { cls := .type "list", dict := none, data := .seq ([] : List Value).toArray } = h1
  have k1 : ∀ b o, s.heap.get? b = some o → h1.get? b = some o := fun b ob z => by rw [← hh1]; exact Heap.get?_push_of_some _ z
  have hL1 : h1.get? s.heap.objs.size = some { cls := .type "list", dict := none, data := .seq ([] : List Value).toArray } := by rw [← hh1]; exact Heap.get?_push_size _ rfl
  have S1 : SetAt w h1 a ns := S.keeps fun o z => k1 a o z
  have hsame : Builtin.List.listSameRef (.ref s.heap.objs.size) (.ref a) = false := by simp [Builtin.List.listSameRef, Nat.ne_of_gt la]
  show wpAny _ A.in1 (Builtin.List.listExtendWith (.ref s.heap.objs.size) (.ref a) (.ref s.heap.objs.size)) _ _ { s with heap := h1 }
  unfold Builtin.List.listExtendWith
  have T1 : Shared.TypeIs { s with heap := h1 } (.ref a) "set" := SetAt.ty (s := { s with heap := h1 }) S1
  refine wpAny_bind (wpAny_typeOf T1 ?_)
  rw [if_neg (by rw [hsame]; decide)]
  refine wpAny_bind (set_iter (s := { s with heap := h1 }) S1 fun it fp P St ord s2 W st0 hP hE hp hlt hI kk kg ko kt hTy hfpA hitA => ?_)
  refine wpAny_bind (wpAny_holding ?_)
  unfold Builtin.List.listLengthHint
  have S2 : SetAt w s2.heap a ns := S1.keeps fun o z => kk a o z
  refine wpAny_bind (wpAny_specialOf S2.ty set_len_lookup ?_)
  (generalize hid : ("set.__len__" : String) = id0; wp_delta; rw [show splitId id0 = some ("set", "__len__") from by subst hid; decide +kernel]; subst hid)
  refine wpAny_bind (wpAny_isInstance (b := true) S2.ty sub_set_self ?_)
  simp only [Bool.not_true, Bool.false_eq_true, if_false]
  rw [if_pos (by decide +kernel)]
  refine wpAny_bind (wpAny_typeOf S2.ty ?_)
  dsimp only
  refine wpAny_pure ?_
  rw [if_pos (by decide +kernel)]
  refine wpAny_bind (wpAny_rule ?_)
  have hL2 : s2.heap.get? s.heap.objs.size = some (seqObj "list" #[] 0) := kk _ _ hL1
  have hol : ord.length ≤ sizeLine := by
    have e1 := hp.length_eq
    obtain ⟨o, es, ep, t, _, _, _, _, _, _, hb, _, _⟩ := S
    rw [List.length_map] at e1
    exact fits_line (by omega)
  unfold Builtin.List.listTouch
  refine wpAny_bind (wpAny_bind (listUpdate_at hL2 rfl ?_))
  have q1 := get?_update_seq hL2 (·.push .none)
  refine listUpdate_at q1 rfl ?_
  have q2 := get?_update_seq q1 (·.pop)
  have nS : s.heap.objs.size ∉ fp := fun z => by
    rcases hfpA _ z with e | e
    · exact Nat.ne_of_gt la e
    · have e' : h1.objs.size ≤ s.heap.objs.size := e
      rw [← hh1, Heap.size_push] at e'
      exact absurd e' (Nat.not_succ_le_self _)
  have WW := W A.in1 hh
  have st3 := WW.frame 0 s2 ((s2.heap.update s.heap.objs.size (Obj.mapSeq (·.push .none))).update s.heap.objs.size (Obj.mapSeq (·.pop))) s2.toks st0 (Nat.le_refl _) fun b hb o z => by
    have nb : s.heap.objs.size ≠ b := fun e => nS (e ▸ hb)
    rw [Heap.get?_update_other _ _ nb, Heap.get?_update_other _ _ nb]; exact z
  refine wpAny_pure ⟨plainId_quiet F.plain_extend_loop _, codeAny_extend_loopS WW hol s.heap.objs.size nS _ ord.length 0 _ #[] _ (Nat.sub_zero _) (Nat.zero_le _) st3 q2 (ItemsOf.nil P) fun s' acc c mv hS' hacc => ?_⟩
  show wpAny _ A (load s.heap.objs.size >>= _) _ _ s'
  refine wpAny_bind (wpAny_load hS' ?_)
  refine wpAny_pure ?_
  have hIA : IntsAre acc.toList (ord.map val) := by
    have all : ∀ (vs : List Value) (l : List (Int × Value)), vs.length = l.length → (∀ (i : Nat) (v : Value), vs[i]? = some v → ∃ e, l[i]? = some e ∧ v = e.2) → Ent l → IntsAre vs (l.map val) := by
      intro vs
      induction vs with
      | nil =>
        intro l hl _ _
        have e : l = [] := List.length_eq_zero_iff.mp hl.symm
        subst e; exact .nil
      | cons v r ih =>
        intro l hl hv hE'
        cases l with
        | nil => simp at hl
        | cons e l =>
          obtain ⟨e', q1, q2⟩ := hv 0 v rfl
          have q1' : e = e' := by simpa using q1
          subst q1'
          obtain ⟨n, t, rfl⟩ := hE' e List.mem_cons_self
          subst q2
          exact .cons n t (ih l (by simpa using hl) (fun i v z => by simpa using hv (i + 1) v (by simpa using z)) fun e z => hE' e (List.mem_cons_of_mem _ z))
    refine all acc.toList ord (by simpa using hacc.1) (fun i v z => hP i v (hacc.2 i v (by simpa using z))) hE
  refine h s' acc.toList _ (fun b o z => ?_) ?_ ?_ (Nat.le_of_lt (Heap.lt_size hS')) hIA hp
  · have z1 := kk b o (k1 b o z)
    have nb : b ≠ s.heap.objs.size := Nat.ne_of_lt (Heap.lt_size z)
    have nbI : b ∉ s.heap.objs.size :: [it] := fun y => by
      rcases List.mem_cons.mp y with e | e
      · exact nb e
      · have e' : b = it := by simpa using e
        have q' : h1.objs.size ≤ it := hitA
        rw [← e', ← hh1, Heap.size_push] at q'
        exact absurd (Nat.lt_of_lt_of_le (Nat.lt_succ_of_lt (Heap.lt_size z)) q') (Nat.lt_irrefl _)
    refine mv.heap b o nbI ?_
    show ((s2.heap.update s.heap.objs.size (Obj.mapSeq (·.push .none))).update s.heap.objs.size (Obj.mapSeq (·.pop))).get? b = some o
    rw [Heap.get?_update_other _ _ (Ne.symm nb), Heap.get?_update_other _ _ (Ne.symm nb)]; exact z1
  · have z : s'.gens = s2.gens := mv.gens
    rw [z, kg]
  · have z : s'.os = s2.os := mv.os
    rw [z, ko]
end
end SetX
end
section
namespace L2
open PySem PySem.Spec PyProof.Rows
def clo (env : Env) : List (Str × NameKind) → List (Str × Addr) → List (Str × Addr)
  | [], acc => acc
  | (n, k) :: r, acc => if k == .free then (match env.cells.lookup n with | some c => clo env r ((n, c) :: acc) | none => clo env r acc) else clo env r acc
theorem clo_from {env : Env} {x : Str} {c : Addr} : ∀ {names : List (Str × NameKind)} {acc : List (Str × Addr)}, (∀ y d, acc.lookup y = some d → env.cells.lookup y = some d) → (clo env names acc).lookup x = some c → env.cells.lookup x = some c
  | [], acc, ha, h => ha x c h
  | (n, k) :: r, acc, ha, h => by
    unfold clo at h
    by_cases hk : (k == NameKind.free) = true
    · rw [if_pos hk] at h
      cases e : env.cells.lookup n with
      | none => rw [e] at h; exact clo_from ha h
      | some d =>
        rw [e] at h
        refine clo_from (fun y d' hy => ?_) h
        rw [List.lookup_cons] at hy
        cases q : y == n with
        | true =>
          rw [q] at hy
          have q' : y = n := eq_of_beq q
          subst q'
          cases hy
          exact e
        | false => rw [q] at hy; exact ha y d' hy
    · rw [if_neg hk] at h; exact clo_from ha h
theorem clo_acc {env : Env} {x : Str} {c : Addr} (hc : env.cells.lookup x = some c) : ∀ {names : List (Str × NameKind)} {acc : List (Str × Addr)}, (acc.lookup x = some c ∨ (x, NameKind.free) ∈ names) → (clo env names acc).lookup x = some c
  | [], acc, h => by
    rcases h with h | h
    · exact h
    · exact absurd h (by simp)
  | (n, k) :: r, acc, h => by
    unfold clo
    by_cases hk : (k == NameKind.free) = true
    · rw [if_pos hk]
      have hk' : k = NameKind.free := eq_of_beq hk
      by_cases hx : x = n
      · subst hx
        rw [hc]
        exact clo_acc hc (.inl (by rw [List.lookup_cons]; simp))
      · have h' : acc.lookup x = some c ∨ (x, NameKind.free) ∈ r := by
          rcases h with h | h
          · exact .inl h
          · rcases List.mem_cons.mp h with e | e
            · exact absurd (congrArg Prod.fst e) hx
            · exact .inr e
        cases e : env.cells.lookup n with
        | none => exact clo_acc hc h'
        | some d =>
          refine clo_acc hc (h'.imp (fun q => ?_) id)
          rw [List.lookup_cons]
          have hb : (x == n) = false := beq_eq_false_iff_ne.mpr hx
          rw [hb]
          exact q
    · rw [if_neg hk]
      refine clo_acc hc (h.imp id fun q => ?_)
      rcases List.mem_cons.mp q with e | e
      · exfalso
        have : k = NameKind.free := (congrArg Prod.snd e).symm
        exact hk (by rw [this]; rfl)
      · exact e
theorem closureFor_clo {scope : Scope} {env : Env} (h : ∀ x ∈ scope.names, x.2 = .free → ∃ c, env.cells.lookup x.1 = some c) : closureFor scope env = pure (clo env scope.names []) := by
  have go : ∀ (names : List (Str × NameKind)) (acc : List (Str × Addr)), (∀ x ∈ names, x.2 = .free → ∃ c, env.cells.lookup x.1 = some c) →
      (forIn names acc fun x cs => (match x with | (name, kind) => if (kind == .free) = true then do let c ← cellOf env name; pure (ForInStep.yield ((name, c) :: cs)) else pure (ForInStep.yield cs) : Sem (ForInStep (List (Str × Addr))))) = (pure (clo env names acc) : Sem (List (Str × Addr))) := by
    intro names
    induction names with
    | nil => intro acc _; rfl
    | cons p r ih =>
      intro acc hp
      obtain ⟨n, k⟩ := p
      have hr := fun x hx => hp x (List.mem_cons_of_mem _ hx)
      rw [List.forIn_cons]
      unfold clo
      by_cases hk : (k == NameKind.free) = true
      · obtain ⟨c, hc⟩ := hp (n, k) List.mem_cons_self (eq_of_beq hk)
        have hco : cellOf env n = pure c := by unfold cellOf; simp only at hc; rw [hc]
        simp only [hk, if_true, hco]
        simp only at hc
        rw [hc]
        exact ih ((n, c) :: acc) hr
      · simp only [hk, if_false]
        exact ih acc hr
  unfold closureFor
  dsimp only
  rw [go scope.names [] h]
  rfl
theorem lookup_relabel_free {env : Env} : ∀ {names : List (Str × NameKind)} {x : Str}, names.lookup x = some .free →
    (names.map fun (n, k) => if (k == NameKind.free && env.scope.kind == .function && env.kindOf n == some .cell) then (n, NameKind.cell) else (n, k)).lookup x = some .cell ∨
    (names.map fun (n, k) => if (k == NameKind.free && env.scope.kind == .function && env.kindOf n == some .cell) then (n, NameKind.cell) else (n, k)).lookup x = some .free
  | [], _, h => by simp at h
  | (n, k) :: r, x, h => by
    have ih := @lookup_relabel_free env r x
    show List.lookup x ((if (k == NameKind.free && env.scope.kind == .function && env.kindOf n == some .cell) = true then (n, NameKind.cell) else (n, k)) :: _) = _ ∨ List.lookup x ((if (k == NameKind.free && env.scope.kind == .function && env.kindOf n == some .cell) = true then (n, NameKind.cell) else (n, k)) :: _) = _
    cases hx : x == n with
    | true =>
      simp only [List.lookup_cons, hx] at h
      cases h
      by_cases hc : (NameKind.free == NameKind.free && env.scope.kind == .function && env.kindOf n == some .cell) = true
      · rw [if_pos hc]; simp only [List.lookup_cons, hx]; exact .inl trivial
      · rw [if_neg hc]; simp only [List.lookup_cons, hx]; exact .inr trivial
    | false =>
      simp only [List.lookup_cons, hx] at h
      by_cases hc : (k == NameKind.free && env.scope.kind == .function && env.kindOf n == some .cell) = true
      · rw [if_pos hc]; simp only [List.lookup_cons, hx]; exact ih h
      · rw [if_neg hc]; simp only [List.lookup_cons, hx]; exact ih h
def compX (X : Cx) (scope : Scope) (N' : List Str) (s : Shared) (H : Hp) (fp : List Addr) (C : Addr) : Cx :=
  { prog := X.prog, w := X.w, K := X.K, mg := X.mg, base := X.base, A := X.A, N := N', s₀ := s, H₀ := H, env := compEnvC scope (clo X.env scope.names []) C X.env, outer := X.stack, stack := X.stack, ex := fp, fn := fun _ => false,
    calm := X.calm, pn := [], xe := fun _ _ => False }
structure CompSc (N : List Str) (sc0 scope : Scope) (own fr : List Str) (js : List Nat) : Prop where
  kind : scope.kind = .function
  cell : ∀ y ∈ scope.names, y.2 ≠ .cell
  loc : ∀ x ∈ scope.names, x.2 = .local → scope.names.lookup x.1 = some .local
  free : ∀ x ∈ scope.names, x.2 = .free → sc0.names.lookup x.1 = some .cell ∨ sc0.names.lookup x.1 = some .free
  len : js.length = fr.length
  fr : ∀ p ∈ fr.zip js, N[p.2]? = some p.1 ∧ scope.names.lookup p.1 = some .free
def stOf (own : Nat) (js : List Nat) (σ : St) : St := List.replicate own none ++ js.map fun j => (σ[j]?).join
def tComp (wi : TI) (g : TG) (te : TE) (own : Nat) (js : List Nat) : TE := fun σ H Q => wi σ H fun J H1 => ∀ p, H1 p = none → ∃ W : Nat → Nat → St → Hp → Prop, (∃ m, W 0 m (stOf own js σ) (upd H1 p (.lst []))) ∧
  ∀ i m σ' H', W i m σ' H' → (J.stop i H' ∧ Q (.ref p) H') ∨ (J.go i H' ∧ ∀ x H2, J.yld i H' x H2 → g x σ' H2 fun σ2 H3 => te σ2 H3 fun v H4 => ∃ ys, H4 p = some (.lst ys) ∧ ys.length < sizeLine ∧ ∃ m', m' < m ∧ W (i + 1) m' σ2 (upd H4 p (.lst (ys ++ [v]))))
section
variable {X : Cx}
theorem comp_start {pins : List (Addr × Obj)} {σ : St} {H : Hp} {s : Shared} {h1 : Heap} {scope : Scope} {own fr : List Str} {js : List Nat} {sc0 : Scope} {N : List Str} {fp : List Addr} {tk : Nat} (I : Inv X pins σ H s) (hN : X.N = N) (hsc : X.env.scope = sc0) (S : CompSc N sc0 scope own fr js) (hf : ∀ b ∈ fp, FpOk X pins H b)
    (hlt : ∀ b ∈ fp, b < s.heap.objs.size) (hn : h1.Ns s.heap.objs.size (fun _ => none)) (hk : ∀ b o, s.heap.get? b = some o → h1.get? b = some o) :
    Inv (compX X scope (own ++ fr) s H fp s.heap.objs.size) [] (stOf own.length js σ) H { s with heap := h1, toks := tk } := by
  subst hN hsc
  have ok := I.ok
  have cl : ∀ x c, (clo X.env scope.names []).lookup x = some c → X.env.cells.lookup x = some c := fun x c h => clo_from (fun y d hy => by simp at hy) h
  have hasC : ∀ x, (X.env.scope.names.lookup x = some .cell ∨ X.env.scope.names.lookup x = some .free) → ∃ c, X.env.cells.lookup x = some c := fun x hx => ok.has x hx
  refine ⟨⟨ok.mod, S.kind, ok.glob, ok.blt, Nat.le_refl _, fun x y c h1 h2 => ok.inj x y c (cl x c h1) (cl y c h2), fun x hx => ?_, fun _ _ h => (Bool.false_ne_true h).elim, ok.hd, ok.frames, .inl rfl, fun b hb => ⟨Nat.ne_of_lt (hlt b hb), fun x c h => (hf b hb).2.2.2.2.1 x c (cl x c h)⟩,
    fun b o e => I.bs b o e, Nat.le_trans ok.bsz I.sz, fun b o e hb => ?_, fun b hb => fun z => ?_, I.stack, I.stkFree⟩, rfl, I.bare, Un.kept hk, ⟨_, hn, fun i x v h1 h2 h3 => ?_⟩, fun x c h => ?_, I.hok.fresh (Nat.le_refl _), fun x c h => I.freeC x c (cl x c h), fun p hp => absurd hp (by intro z; exact absurd (show p ∈ ([] : List (Addr × Obj)) from z) (by simp)), I.hok.kept hk, ?_⟩
  ·
    have hx' : (relabel scope X.env).names.lookup x = some .cell ∨ (relabel scope X.env).names.lookup x = some .free := hx
    have hfree : ∃ k, scope.names.lookup x = some k ∧ (k = .free ∨ k = .cell) := by
      have back : ∀ (names : List (Str × NameKind)), ((names.map fun (n, k) => if (k == NameKind.free && X.env.scope.kind == .function && X.env.kindOf n == some .cell) then (n, NameKind.cell) else (n, k)).lookup x = some .cell ∨
          (names.map fun (n, k) => if (k == NameKind.free && X.env.scope.kind == .function && X.env.kindOf n == some .cell) then (n, NameKind.cell) else (n, k)).lookup x = some .free) → ∃ k, names.lookup x = some k ∧ (k = .free ∨ k = .cell) := by
        intro names
        induction names with
        | nil => intro h; simp at h
        | cons p r ih =>
          obtain ⟨n, k⟩ := p
          intro h
          rw [List.map_cons] at h
          rw [List.lookup_cons]
          by_cases hc : (k == NameKind.free && X.env.scope.kind == .function && X.env.kindOf n == some .cell) = true
          · simp only [hc, if_true, List.lookup_cons] at h
            cases q : x == n with
            | true =>
              simp only [Bool.and_eq_true] at hc
              exact ⟨k, rfl, .inl (eq_of_beq hc.1.1)⟩
            | false => rw [q] at h; exact ih h
          · simp only [hc, Bool.false_eq_true, if_false, List.lookup_cons] at h
            cases q : x == n with
            | true =>
              rw [q] at h
              refine ⟨k, rfl, ?_⟩
              rcases h with h | h
              · exact .inr (Option.some.inj h)
              · exact .inl (Option.some.inj h)
            | false => rw [q] at h; exact ih h
      exact back _ hx'
    obtain ⟨k, e, z⟩ := hfree
    have hm : (x, k) ∈ scope.names := PySem.mem_of_lookup e
    rcases z with z | z
    · subst z
      obtain ⟨c, hc⟩ := hasC x (S.free _ hm rfl)
      exact ⟨c, clo_acc hc (.inr hm)⟩
    · exact absurd z (S.cell _ hm)
  · rcases (hf b hb).2.2.2.1 with z | z
    · exact ok.noex b o e z
    · exact absurd (Nat.lt_of_lt_of_le (Heap.lt_size (ok.bs b o e).1) z) (Nat.lt_irrefl _)
  · rcases List.mem_cons.mp (I.stkSub b z) with e | e
    · exact (hf b hb).2.1 e
    · exact (hf b hb).2.2.1 e
  · unfold stOf at h2
    by_cases hi : i < own.length
    · rw [List.getElem?_append_left (by simpa using hi), List.getElem?_replicate] at h2
      rw [if_pos hi] at h2
      cases h2
    · have hio : own.length ≤ i := Nat.le_of_not_lt hi
      rw [List.getElem?_append_right (by simpa using hio), List.length_replicate, List.getElem?_map] at h2
      have h1' : fr[i - own.length]? = some x := by
        have h1'' : (own ++ fr)[i]? = some x := h1
        rw [List.getElem?_append_right hio] at h1''
        exact h1''
      cases ej : js[i - own.length]? with
      | none => rw [ej] at h2; cases h2
      | some j =>
        rw [ej] at h2
        have h2' : (σ[j]?).join = some v := Option.some.inj h2
        have h2'' : σ[j]? = some (some v) := by
          cases q : σ[j]? with
          | none => rw [q] at h2'; cases h2'
          | some o => rw [q] at h2'; have : o = some v := h2'; rw [this]
        have hz : (x, j) ∈ fr.zip js := by
          refine List.mem_iff_getElem?.mpr ⟨i - own.length, ?_⟩
          rw [List.getElem?_zip_eq_some]
          exact ⟨h1', ej⟩
        obtain ⟨hj, hxf⟩ := S.fr _ hz
        have hcf := S.free _ (PySem.mem_of_lookup hxf) rfl
        obtain ⟨m, hm, hl⟩ := I.loc
        have hvis : Vis X.env.scope x := hcf.elim (fun z => .inr (.inl z)) fun z => .inr (.inr z)
        obtain ⟨u, r, l⟩ := hl j x v hj h2'' hvis
        refine ⟨u, r, .inr ⟨lookup_relabel_free hxf, ?_⟩⟩
        rcases l with ⟨lk, _⟩ | ⟨_, c, hc, hcell⟩
        · have lk' : X.env.scope.names.lookup x = some .local := lk
          rcases hcf with z | z
          · rw [lk'] at z; cases z
          · rw [lk'] at z; cases z
        · exact ⟨c, clo_acc hc (.inr (PySem.mem_of_lookup hxf)), hcell.keeps hk⟩
  · obtain ⟨v, z⟩ := I.cell x c (cl x c h)
    exact ⟨v, z.keeps hk⟩
  · show (stOf own.length js σ).length = (own ++ fr).length
    unfold stOf
    rw [List.length_append, List.length_replicate, List.length_map, List.length_append, S.len]
theorem compTurn_list1' (elt target iter : Expr) (scope : Scope) (pos : Pos) (it acc : Value) (env : Env) :
    compTurn (.ListComp elt [⟨target, iter, [], 0⟩] scope pos) 0 it acc env = (standAt iter.pos >>= fun _ => pyNext it >>= fun r => match r with
      | none => pure (.done .next)
      | some v => letOwnedTupleGo target it v >>= fun _ => assign target env v >>= fun _ =>
        (eval elt env >>= fun x => call (.builtin "list.append") [acc, x] >>= fun _ => pure ()) >>= fun _ =>
          again (.compLoop (.ListComp elt [⟨target, iter, [], 0⟩] scope pos) 0 it acc env)) := by rfl
theorem codeAny_compLoop_any {prog : Program} {w : World} {A : Around} {s : Shared} {R : Result → Shared → Prop} {elt target iter : Expr} {scope : Scope} {pos : Pos} {it acc : Value} {env : Env} (I : Nat → Shared → Prop)
    (turn : ∀ n s, I n s → wpAny (model prog w) A (pyNext it) (fun r s₁ => match r with
      | none => R (.ok .next) s₁
      | some v => wpAny (model prog w) A (letOwnedTupleGo target it v) (fun _ s₁' => wpAny (model prog w) A (assign target env v) (fun _ s₂ => wpAny (model prog w) A (eval elt env) (fun x s₃ =>
          wpAny (model prog w) A (call (.builtin "list.append") [acc, x]) (fun _ s₄ => ∃ m, m < n ∧ I m s₄) (fun _ _ => False) s₃)
          (fun _ _ => False) s₂) (fun _ _ => False) s₁') (fun _ _ => False) s₁) (fun _ _ => False) s)
    (n : Nat) (h : I n s) :
    codeAny (model prog w) A (.compLoop (.ListComp elt [⟨target, iter, [], 0⟩] scope pos) 0 it acc env) R s := by
  refine codeAny_loop rfl I (fun n s hI => ?_) n h
  show wpAny _ _ ((compTurn (.ListComp elt [⟨target, iter, [], 0⟩] scope pos) 0 it acc env).onRaise (fun x => do noteFrame x env; theTreesLotGoes x)) _ _ s
  refine wpAny_noted ?_
  rw [compTurn_list1']
  refine wpAny_bind (wpAny_standAt (wpAny_bind (wpAny_mono (turn n s hI) (fun r s₁ h₁ => ?_) fun _ _ h' => h'.elim)))
  cases r with
  | none => exact wpAny_pure h₁
  | some v =>
    exact wpAny_bind (wpAny_mono h₁ (fun _ s₁' h₁' => wpAny_bind (wpAny_mono h₁' (fun _ s₂ h₂ => wpAny_bind (wpAny_bind (wpAny_mono h₂ (fun x s₃ h₃ => wpAny_bind (wpAny_mono h₃
      (fun _ s₄ h₄ => wpAny_pure (wpAny_pure ⟨rfl, h₄⟩)) fun _ _ h' => h'.elim)) fun _ _ h' => h'.elim))) fun _ _ h' => h'.elim)) fun _ _ h' => h'.elim)
theorem pe_comp {tg iter elt : Expr} {scope : Scope} {pos : Pos} {wi : TI} {g : TG} {te : TE} (own fr : List Str) (js : List Nat) {sc0 : Scope} {N : List Str} (hc : X.calm = true) (hN : X.N = N) (hsc : X.env.scope = sc0) (S : CompSc N sc0 scope own fr js)
    (hi : PI X tg iter wi) (hg : ∀ s H fp C, PG (compX X scope (own ++ fr) s H fp C) tg g) (he : ∀ s H fp C, PE (compX X scope (own ++ fr) s H fp C) elt te)
    (hs : ∀ x, foldedSetIterable iter X.env x = pure x := by intro _; rfl) : PE X (.ListComp elt [⟨tg, iter, [], 0⟩] scope pos) (tComp wi g te own.length js) := by
  intro pins s σ H Q I h
  rw [eval_ListComp]
  have hclos : closureFor scope X.env = pure (clo X.env scope.names []) := closureFor_clo fun x hx e => by
    subst hsc
    exact I.ok.has x.1 (S.free x hx e)
  refine wpAny_comprehension_free (use := none) rfl hs hclos S.kind S.loc (thn (hi pins s σ H _ I h) fun xv s1 h1 => thn h1 fun itv s2 h2 => ?_)
  obtain ⟨it, fp, tn, J, H2, e, I2, T, st2, f2, rest⟩ := h2
  subst e
  refine wpAny_newObj_type ?_
  obtain ⟨W, ⟨m0, w0⟩, turn⟩ := rest s2.heap.objs.size (I2.hok.fresh (Nat.le_refl _))
  have I3 : Inv X pins σ (upd H2 s2.heap.objs.size (.lst [])) { s2 with heap := s2.heap.push { cls := .type "list", dict := none, data := .seq ([] : List Value).toArray } } :=
    I2.lnew (its := []) (t' := s2.toks) .nil (Nat.zero_le _)
  generalize hs3 : ({ s2 with heap := s2.heap.push { cls := .type "list", dict := none, data := .seq ([] : List Value).toArray } } : Shared) = s3 at I3 ⊢
  have ho3 : ∀ b o, s2.heap.get? b = some o → s3.heap.get? b = some o := fun b o e => by rw [← hs3]; exact Heap.get?_push_of_some _ e
  have f3 : ∀ b ∈ fp, FpOk X pins (upd H2 s2.heap.objs.size (.lst [])) b := fun b hb => by
    obtain ⟨o, e, _⟩ := T.obj _ _ st2 b hb
    exact ⟨by rw [upd_ne (Nat.ne_of_lt (Heap.lt_size e))]; exact (f2 b hb).1, (f2 b hb).2⟩
  have l3 : ∀ b ∈ fp, b < s3.heap.objs.size := fun b hb => by
    obtain ⟨o, e, _⟩ := T.obj _ _ st2 b hb
    exact Heap.lt_size (ho3 b o e)
  have st3 : tn 0 s3.heap := T.keep _ _ _ st2 fun b _ o e => ho3 b o e
  refine wpAny_newFunctionEnv S.cell (by intro y hy; simp at hy) (fun h4 hn4 sb4 => ?_) S.kind
  have ho4 : ∀ b o, s3.heap.get? b = some o → h4.get? b = some o := fun b o e => sb4.extBut b o (Nat.ne_of_lt (Heap.lt_size e)) (Heap.get?_push_of_some _ e)
  have hn4' : h4.Ns s3.heap.objs.size (fun _ => none) := hn4
  have J0 := comp_start (scope := scope) (own := own) (fr := fr) (js := js) (tk := s3.toks + ([] : List (Str × Value)).length) I3 hN hsc S f3 l3 hn4' ho4
  have st4 : tn 0 h4 := T.keep _ _ _ st3 fun b _ o e => ho4 b o e
  show codeAny (model X.prog X.w) X.A (.compStart (.ListComp elt [⟨tg, iter, [], 0⟩] scope pos) 0 (.ref it) (.ref s2.heap.objs.size) (compX X scope (own ++ fr) s3 (upd H2 s2.heap.objs.size (.lst [])) fp s3.heap.objs.size).env) (compPost (model X.prog X.w) X.A X.xe none (EP X pins σ Q) (.ref s2.heap.objs.size) s3.heap.objs.size) _
  generalize hX' : compX X scope (own ++ fr) s3 (upd H2 s2.heap.objs.size (.lst [])) fp s3.heap.objs.size = X' at J0 ⊢
  have hgX : PG X' tg g := hX' ▸ hg _ _ _ _
  have heX : PE X' elt te := hX' ▸ he _ _ _ _
  have eP : X'.prog = X.prog := by rw [← hX']; rfl
  have eW : X'.w = X.w := by rw [← hX']; rfl
  have eK : X'.K = X.K := by rw [← hX']; rfl
  have eC : X'.calm = true := by rw [← hX']; exact hc
  have eA : X'.A = X.A := by rw [← hX']; rfl
  have eX : X'.xe = fun _ _ => False := by rw [← hX']; rfl
  have eEx : X'.ex = fp := by rw [← hX']; rfl
  have eL : X'.env.locals = s3.heap.objs.size := by rw [← hX']; rfl
  have eN : X'.N = own ++ fr := by rw [← hX']; rfl
  have cl' : ∀ x c, X'.env.cells.lookup x = some c → X.env.cells.lookup x = some c := fun x c h => clo_from (names := scope.names) (acc := []) (fun y d hy => by simp at hy) (by rw [← hX'] at h; exact h)
  have eFs : X'.fs = frs X.stack := by rw [← hX']; rfl
  have ePn : X'.pn = [] := by rw [← hX']; rfl
  have fp' : ∀ {H' : Hp}, (∀ b ∈ fp, H' b = none) → ∀ b ∈ fp, FpOk X' [] H' b := fun hn b hb => ⟨hn b hb, by rw [eL]; exact Nat.ne_of_lt (l3 b hb), by
      rw [eFs]; intro z
      rcases List.mem_cons.mp (I3.stkSub b z) with e | e
      · exact (f3 b hb).2.1 e
      · exact (f3 b hb).2.2.1 e, .inl (by rw [eEx]; exact hb), fun x c h => (f3 b hb).2.2.2.2.1 x c (cl' x c h), fun p hp => by rw [ePn] at hp; exact absurd (show p ∈ ([] : List (Addr × Obj)) from hp) (by simp)⟩
  have loop : ∀ s4 : Shared, s4 = { s3 with heap := h4, toks := s3.toks + ([] : List (Str × Value)).length } →
      codeAny (model X.prog X.w) X.A (.compLoop (.ListComp elt [⟨tg, iter, [], 0⟩] scope pos) 0 (.ref it) (.ref s2.heap.objs.size) X'.env) (compPost (model X.prog X.w) X.A X.xe none (EP X pins σ Q) (.ref s2.heap.objs.size) s3.heap.objs.size) s4 := by
    rintro s4 rfl
    refine codeAny_compLoop_any (fun n s' => ∃ i σ' H', Inv X' [] σ' H' s' ∧ tn i s'.heap ∧ (∀ b ∈ fp, H' b = none) ∧ W i n σ' H') ?_ m0 ⟨0, _, _, J0, st4, fun b hb => (f3 b hb).1, w0⟩
    rintro n s5 ⟨i, σ5, H5, I5, st5, fr5, w5⟩
    rcases turn i n σ5 H5 w5 with ⟨stop, q⟩ | ⟨go, step⟩
    · have hd := T.done X' eP eW eK eC i [] s5 σ5 H5 (fun _ _ => False) I5 (fp' fr5) st5 stop
      rw [eA] at hd
      refine thn hd fun r s6 ⟨hr, I6⟩ => ?_
      subst hr
      obtain ⟨m6, hn6, _⟩ := I6.loc
      rw [eL] at hn6
      refine ⟨m6, hn6, fun h7 sb7 => ?_⟩
      have hC : H5 s3.heap.objs.size = none := by have := I6.free; rw [eL] at this; exact this
      have hok7 : HOk X.prog X.w H5 h7 := fun b ob e => by
        have e6 := I6.hok b ob e
        rw [eP, eW] at e6
        refine e6.stay (fun c w' hc q => (sb7.2 c ?_).trans q) (fun _ q => q) fun _ _ q => q
        rintro rfl
        rcases hc with z | z
        · rw [← z, hC] at e; cases e
        · rw [hC] at z; cases z
      have un : Un (frs X.stack) fp (upd H2 s2.heap.objs.size (.lst [])) H5 s3.heap h7 := by
        have b6 := I6.base
        have e0 : X'.H₀ = upd H2 s2.heap.objs.size (.lst []) := by rw [← hX']; rfl
        have e1 : X'.s₀ = s3 := by rw [← hX']; rfl
        rw [eFs, eEx, e0, e1] at b6
        have ne : ∀ b o, s3.heap.get? b = some o → b ≠ s3.heap.objs.size := fun b o e => Nat.ne_of_lt (Heap.lt_size e)
        exact ⟨fun b o e n hb hx => (sb7.2 b (ne b o e)).trans (b6.keep b o e n hb hx), fun b o e n hb hx => by
            obtain ⟨sl, z⟩ := b6.slot b o e n hb hx
            exact ⟨sl, (sb7.2 b (ne b o e)).trans z⟩, b6.free, fun b o e hx => by
            obtain ⟨o', z⟩ := b6.there b o e hx
            exact ⟨o', (sb7.2 b (ne b o e)).trans z⟩, b6.tups, b6.frzs, b6.tbls⟩
      have os7 : s6.os = s3.os := by have := I6.os; rw [← hX'] at this; exact this
      have I7 : Inv X pins σ H5 { s6 with heap := h7 } := I3.call' (s' := { s6 with heap := h7 }) (ch := fp) os7 un hok7 I6.bare fun b hb => ⟨(f3 b hb).2.2.2.1, (f3 b hb).2.1, (f3 b hb).2.2.2.2.1, (f3 b hb).2.2.2.2.2⟩
      exact ⟨.ref s2.heap.objs.size, H5, I7, rfl, q⟩
    · have hd := T.item X' eP eW eK eC i [] s5 σ5 H5 (fun _ _ => False) I5 (fp' fr5) st5 go
      rw [eA] at hd
      refine thn hd fun r s6 ⟨u, hr, h6⟩ => ?_
      subst hr
      refine thn h6 fun _ s7 ⟨x, H7, I7, r7, y7, st7, fr7⟩ => ?_
      have I7' := I7.pinned (fp' fr7) (T.obj _ _ st7)
      have hg7 := hgX _ s7 σ5 H7 x u _ I7' r7 (step x H7 y7)
      rw [eP, eW, eA, eX] at hg7
      refine thn hg7 fun _ s8 ⟨σ8, H8, I8, q8⟩ => ?_
      have he8 := heX _ s8 σ8 H8 _ I8 q8
      rw [eP, eW, eA, eX] at he8
      refine thn he8 fun v s9 ⟨z, H9, I9, r9, ys, hp9, hz9, m', hm', w9⟩ => ?_
      have ha := mt_append (X := X') _ s9 σ8 H9 (.ref s2.heap.objs.size) [z] (.ref s2.heap.objs.size) [v] (fun _ H' => ∃ m', m' < n ∧ W (i + 1) m' σ8 H') I9 rfl (.cons r9 .nil) ⟨_, ys, z, rfl, rfl, hp9, hz9, m', hm', w9⟩
      rw [eP, eW, eA, eX] at ha
      refine thn ha fun _ s10 ⟨_, H10, I10, _, m'', hm'', w10⟩ => ?_
      have pin10 : ∀ b ∈ fp, ∀ o, s7.heap.get? b = some o → s10.heap.get? b = some o ∧ H10 b = none := fun b hb o e =>
        let z := I10.pin (b, o) (List.mem_append_right _ (List.mem_append_right _ (mem_pinsAt hb e)))
        ⟨z.1, z.2.1⟩
      refine ⟨m'', hm'', i + 1, σ8, H10, I10.unpinned, T.keep _ _ _ st7 fun b hb o e => (pin10 b hb o e).1, fun b hb => ?_, w10⟩
      obtain ⟨o, e, _⟩ := T.obj _ _ st7 b hb
      exact (pin10 b hb o e).2
  have st4' : tn 0 ({ s3 with heap := h4, toks := s3.toks + ([] : List (Str × Value)).length } : Shared).heap := st4
  exact codeAny_compStart_list (loop _ rfl) (T.self X.A 0 _ _ _ st4' (loop _ rfl))
end
end L2
end
section
namespace PySem
open Sem (wp)
open AutoSeq1 (wpAny_loadPart')
section
variable {prog : Program} {w : World} {A : Around} {E : Value → Shared → Prop} {s : Shared}
end
end PySem
end
section
namespace L2
open PySem PySem.Spec PyProof.Rows
section
variable {X : Cx} {pins : List (Addr × Obj)} {σ : St} {H : Hp} {s : Shared} {h' : Heap}
theorem Inv.turnedL {ch : List Addr} {a : Addr} {o : HO} {t' : Nat} (I : Inv X pins σ H s) (hf : ∀ b ∈ ch, FpOk X pins H b) (k : ∀ b u, b ∉ ch → s.heap.get? b = some u → h'.get? b = some u) (hp : s.heap.objs.size ≤ a)
    (new : ObjOk X.prog X.w (upd H a o) h' a o) : Inv X pins σ (upd H a o) { s with heap := h', toks := t' } := by
  have hn : H a = none := I.hok.fresh hp
  have nch : ∀ b u, H b = some u → b ∉ ch := fun b u e z => by have := (hf b z).1; rw [e] at this; cases this
  have nea : ∀ b u, s.heap.get? b = some u → b ≠ a := fun b u e => Nat.ne_of_lt (Nat.lt_of_lt_of_le (Heap.lt_size e) hp)
  refine I.step (g' := s.gens) (d' := s.drawn) (ch := ch) (fun b hb => ⟨(hf b hb).2.2.2.1, (hf b hb).2.1, (hf b hb).2.2.2.2.1, (hf b hb).2.2.2.2.2⟩) (fun b u _ _ hc e _ => k b u hc e) (fun b u _ _ hc e _ => ⟨u.slots, k b u hc e⟩)
    (fun b u _ e n => by rw [upd_ne (nea b u e)]; exact n) (fun b u hc e => ⟨u, k b u hc e⟩) (fun b xs e => by rw [upd_ne (ne_of_none e hn)]; exact e) (fun b u xs e => by rw [upd_ne (ne_of_none e hn)]; exact e)
    (fun b ps e => ⟨#[], by rw [upd_ne (ne_of_none e hn), e]; simp⟩) (fun m hm => ?_) (fun b u e => ?_) I.bare
  · obtain ⟨ol, es, ep, ho, r⟩ := hm
    exact ⟨ol, es, ep, k _ ol (fun z => (hf _ z).2.1 rfl) ho, r⟩
  · by_cases hb : b = a
    · subst hb; rw [upd_same] at e; cases e; exact new
    · rw [upd_ne hb] at e
      refine (I.hok b u e).stay (fun c v hc q => k c v ?_ q) (fun c q => by rw [upd_ne (ne_of_none q hn)]; exact q) fun c xs q => by rw [upd_ne (ne_of_none q hn)]; exact q
      rcases hc with z | z
      · rw [z]; exact nch b u e
      · exact nch c _ z
end
def ItS (x : Str) : It := ⟨fun i _ => i < x.cps.size, fun i H v H' => ∃ t c, H t = none ∧ x.cps[i]? = some c ∧ v = .ref t ∧ H' = upd H t (.tup [.int i, .str ⟨#[c]⟩]), fun i _ => i = x.cps.size⟩
theorem drawsS {prog : Program} {w : World} {A : Around} (hh : A.handled = none) (it : Addr) (x : Str) (t : Tok) :
    Draws prog w A it [it] x.cps.size (fun i v => ∃ c u, x.cps[i]? = some c ∧ v = .str ⟨#[c]⟩ u) (fun i h => h.IsStrIter it (strIterType x) x t i) := by
  cases ha : x.cps.all (· < 128)
  · have e : strIterType x = "str_iterator" := by simp [strIterType, ha]
    rw [e]; exact Draws.strWide hh it x t
  · have e : strIterType x = "str_ascii_iterator" := by simp [strIterType, ha]
    rw [e]; exact Draws.strAscii hh it x t
theorem turn_enumS {P : Program} {w : World} {K : PySem.W.Frag} {elts : List Expr} {k : Nat} {pos : Pos} (x : Str) (t : Tok) (e it : Addr) (hei : e ≠ it) :
    Turn P w K (.Tuple elts k pos) (ItS x) [e, it] e (fun i h => (∃ old, IsEnum h e it i old) ∧ h.IsStrIter it (strIterType x) x t i) where
  mem := by simp
  obj := fun i h st b hb => by
    obtain ⟨⟨old, he⟩, o, ho, hc, hd⟩ := st
    rcases List.mem_cons.mp hb with z | z
    · subst z; exact ⟨_, he, fun v z => by have z' : Data.fields _ = Data.cell v := z; cases z'⟩
    · have z' : b = it := by simpa using z
      subst z'; exact ⟨o, ho, fun v z => by rw [hd] at z; cases z⟩
  keep := fun i h h' st kk => by
    obtain ⟨⟨old, he⟩, o, ho, r⟩ := st
    exact ⟨⟨old, kk e (by simp) _ he⟩, o, kk it (by simp) o ho, r⟩
  item := by
    intro X hP hw hK hc i pins s σ H E I hf st hg
    subst hP hw hK
    obtain ⟨⟨old, he⟩, hs⟩ := st
    have hh : X.A.in1.handled = none := I.ok.hd hc
    refine wpAny_pyNext_enum_itemD (drawsS hh it x t) he hs hg hei (by simp [hei]) fun v h1 tk hv ho hs1 hT hsz hk => ?_
    obtain ⟨c, u, hxc, rfl⟩ := hv
    refine ⟨_, rfl, wpAny_letOwnedTupleGo_enum ho fun h2 he2 sb2 => ?_⟩
    have hlt : e < s.heap.objs.size := Heap.lt_size he
    have sb2' : Heap.SameBut e h1 h2 := sb2
    have hT2 : h2.get? s.heap.objs.size = some { cls := .type "tuple", data := .seq #[.int i tk, .str ⟨#[c]⟩ u] } := (sb2'.2 _ (Nat.ne_of_gt hlt)).trans hT
    refine ⟨.ref s.heap.objs.size, upd H s.heap.objs.size (.tup [.int i, .str ⟨#[c]⟩]), ?_, rfl, ⟨_, c, I.hok.fresh (Nat.le_refl _), hxc, rfl, rfl⟩, ⟨⟨_, by simpa using he2⟩, ?_⟩, fun b hb => ?_⟩
    · refine I.turnedL (ch := [e, it]) (t' := tk + 1) hf (fun b o hb q => ?_) (Nat.le_refl _) ⟨by show 2 ≤ sizeLine; decide, [.int i tk, .str ⟨#[c]⟩ u], .cons ⟨_, rfl⟩ (.cons ⟨_, rfl⟩ .nil), _, hT2, rfl, _, rfl⟩
      have h1' : b ≠ e := fun z => hb (by simp [z])
      have h2' : b ≠ it := fun z => hb (by simp [z])
      exact (sb2'.2 b h1').trans (hk b o h1' h2' q)
    · obtain ⟨o, q, r⟩ := hs1
      exact ⟨o, (sb2'.2 it (Ne.symm hei)).trans q, r⟩
    · have hb0 := hf b hb
      have ne : b ≠ s.heap.objs.size := by
        rcases List.mem_cons.mp hb with z | z
        · rw [z]; exact Nat.ne_of_lt hlt
        · have z' : b = it := by simpa using z
          obtain ⟨o, q, _⟩ := hs
          rw [z']; exact Nat.ne_of_lt (Heap.lt_size q)
      rw [upd_ne ne]; exact hb0.1
  done := by
    intro X hP hw hK hc i pins s σ H E I hf st hg
    subst hP hw hK
    obtain ⟨⟨old, he⟩, hs⟩ := st
    have hh : X.A.in1.handled = none := I.ok.hd hc
    have hi : i = x.cps.size := hg
    obtain ⟨f0, f1, f2, f3, f4, f5⟩ := hf it (by simp)
    refine wpAny_pyNext_enum_endD (drawsS hh it x t) he (by rw [← hi]; exact hs) fun h1 eb => ⟨rfl, I.turned (t' := s.toks) (fun b o hb q => eb b o hb q) f0 f1 f3 f4 f5⟩
  self := fun _ _ _ _ _ st h => by
    obtain ⟨⟨old, he⟩, _⟩ := st
    exact wpAny_pyIter_enum he h
section
variable {X : Cx}
def iEnumS (ta : TE) : TI := fun σ H R => ta σ H fun v H1 => ∃ x, v = .str x ∧ R (ItS x) H1
theorem boot_enum : bootBuiltins "enumerate" = some (.type "enumerate") := by decide +kernel
theorem pi_enumS {elts : List Expr} {k : Nat} {tp : Pos} {a : Expr} {ta : TE} {p pos : Pos} (hg : Gl X "enumerate") (hm : X.mg "enumerate" = none) (ha : PE X a ta) (hs : starEach [a] X.env = [(false, eval a X.env)] := by rfl) :
    PI X (.Tuple elts k tp) (.Call (.Name "enumerate" p) [a] [] pos) (iEnumS ta) := by
  intro pins s σ H R I h
  refine Call_ (ld_blt I hg hm boot_enum (PyProof.Rows.callWith_type1 (thn (pa_cons ha pa_nil hs pos pins s σ H (fun vs H1 => ∃ x, vs = [.str x] ∧ R (ItS x) H1) I ?_) fun us s1 ⟨vs, H1, I1, r1, q1⟩ => ?_) hs rfl))
  · show ta σ H fun v H1 => ∃ x, [v] = [V.str x] ∧ R (ItS x) H1
    have h' : ta σ H fun v H1 => ∃ x, v = .str x ∧ R (ItS x) H1 := h
    have e : (fun (v : V) H1 => ∃ x, [v] = [V.str x] ∧ R (ItS x) H1) = fun v H1 => ∃ x, v = .str x ∧ R (ItS x) H1 := by
      funext v H1
      simp
    rw [e]; exact h'
  · obtain ⟨x, e, q⟩ := q1
    subst e
    cases r1 with
    | cons r rr =>
      cases rr
      obtain ⟨t, rfl⟩ := r
      refine call_enumerate_str fun h1 he hi hz hk => ?_
      have I2 : Inv X pins σ H1 { s1 with heap := h1 } := I1.kept (t' := s1.toks) hk
      refine wpAny_pyIter_enum he ⟨s1.heap.objs.size + 1, [s1.heap.objs.size + 1, s1.heap.objs.size], _, ItS x, H1, rfl, I2, turn_enumS x t _ _ (Nat.succ_ne_self _), ⟨⟨_, by simpa using he⟩, hi⟩, fun b hb => ?_, q⟩
      have hb' : s1.heap.objs.size ≤ b := by
        rcases List.mem_cons.mp hb with z | z
        · rw [z]; exact Nat.le_succ _
        · have z' : b = s1.heap.objs.size := by simpa using z
          rw [z']; exact Nat.le_refl _
      exact I1.fpOk hb' (I1.hok.fresh hb')
end
theorem for_enumS {x : Str} {g : TG} {tb : TS} {D : Ends} {σ : St} {H : Hp} (Pv : Nat → St → Hp → Prop) (h0 : Pv 0 σ H)
    (hs : ∀ i c t σ H, x.cps[i]? = some c → H t = none → Pv i σ H → g (.ref t) σ (upd H t (.tup [.int i, .str ⟨#[c]⟩])) fun σ2 H2 => tb { D with nx := Pv (i + 1), ct := Pv (i + 1), bk := D.nx } σ2 H2) (hd : ∀ σ H, Pv x.cps.size σ H → D.nx σ H) :
    ∃ W : Nat → Nat → St → Hp → Prop, (∃ m, W 0 m σ H) ∧ ∀ i m σ H, W i m σ H →
      ((ItS x).stop i H ∧ D.nx σ H) ∨ ((ItS x).go i H ∧ ∃ N : St → Hp → Prop, (∀ σ' H', N σ' H' → ∃ m', m' < m ∧ W (i + 1) m' σ' H') ∧ ∀ v H', (ItS x).yld i H v H' → g v σ H' fun σ2 H2 => tb { D with nx := N, ct := N, bk := D.nx } σ2 H2) := by
  refine ⟨fun i m σ H => m = x.cps.size - i ∧ i ≤ x.cps.size ∧ Pv i σ H, ⟨_, rfl, Nat.zero_le _, h0⟩, ?_⟩
  rintro i m σ H ⟨rfl, hi, p⟩
  by_cases hlt : i < x.cps.size
  · refine .inr ⟨hlt, Pv (i + 1), fun σ' H' p' => ⟨x.cps.size - (i + 1), by omega, rfl, hlt, p'⟩, fun v H' y => ?_⟩
    obtain ⟨t, c, ht, hc, rfl, rfl⟩ := y
    exact hs i c t σ H hc ht p
  · have e : i = x.cps.size := by omega
    subst e
    exact .inl ⟨rfl, hd σ H p⟩
end L2
end
section
namespace L2
open PySem PySem.Spec PyProof.Rows
section
variable {X : Cx}
def eqVs : List V → List V → Bool
  | [], [] => true
  | x :: xs, y :: ys => eqV x y && eqVs xs ys
  | _, _ => false
theorem eqVs_range : ∀ (xs ys : List V), xs.length = ys.length → (List.range xs.length).all (fun j => eqV (xs.getD j .non) (ys.getD j .non)) = eqVs xs ys
  | [], [], _ => rfl
  | x :: xs, y :: ys, h => by
    have ih := eqVs_range xs ys (by simpa using h)
    rw [List.length_cons, List.range_succ_eq_map, List.all_cons, List.all_map]
    show (eqV x y && _) = (eqV x y && eqVs xs ys)
    rw [← ih]; rfl
theorem eqVs_len : ∀ (xs ys : List V), xs.length ≠ ys.length → eqVs xs ys = false
  | [], [], h => absurd rfl h
  | [], _ :: _, _ => rfl
  | _ :: _, [], _ => rfl
  | x :: xs, y :: ys, h => by
    show (eqV x y && eqVs xs ys) = false
    rw [eqVs_len xs ys fun z => h (by simp [z])]; simp
theorem eqVs_ints : ∀ (ns ms : List Int), eqVs (ns.map V.int) (ms.map V.int) = decide (ns = ms)
  | [], [] => rfl
  | [], _ :: _ => rfl
  | _ :: _, [] => rfl
  | n :: ns, m :: ms => by
    show ((n == m) && eqVs (ns.map V.int) (ms.map V.int)) = _
    rw [eqVs_ints ns ms]
    by_cases h1 : n = m
    · by_cases h2 : ns = ms
      · simp [h1, h2]
      · simp [h1, h2]
    · simp [h1]
theorem vals_getD {xs : List V} {us : List Value} (r : Vals xs us) {j : Nat} (h : j < us.length) : RelV (xs.getD j .non) us[j] := by
  have hx : j < xs.length := by rw [r.length]; exact h
  obtain ⟨u, hu, ru⟩ := r.get (i := j) (x := xs[j]) (by simp [hx])
  have e : us[j] = u := by
    have := hu
    rw [List.getElem?_eq_getElem h] at this
    exact Option.some.inj this
  have e2 : xs.getD j .non = xs[j] := by simp [List.getD, hx]
  rw [e, e2]; exact ru
theorem flat_getD {xs : List V} (f : xs.all flatV = true) {j : Nat} (h : j < xs.length) : flatV (xs.getD j .non) = true := by
  have e2 : xs.getD j .non = xs[j] := by simp [List.getD, h]
  rw [e2]
  exact List.all_eq_true.mp f _ (List.getElem_mem h)
theorem items_eqAt {A : Around} {s : Shared} {xs ys : List V} {us vs : List Value} (rx : Vals xs us) (ry : Vals ys vs) (fx : xs.all flatV = true) (fy : ys.all flatV = true) :
    ∀ j (h1 : j < us.toArray.size) (h2 : j < vs.toArray.size), SeqAt.EqAt A s us.toArray[j] vs.toArray[j] (eqV (xs.getD j .non) (ys.getD j .non)) := by
  intro j h1 h2
  have h1' : j < us.length := by simpa using h1
  have h2' : j < vs.length := by simpa using h2
  have q := eqAt_V (A := A) (s := s) (vals_getD rx h1') (vals_getD ry h2') (flat_getD fx (by rw [rx.length]; exact h1')) (flat_getD fy (by rw [ry.length]; exact h2'))
  simpa using q
def rNeL (K : PySem.W.Frag) : R2 := fun x y H Q => ∃ a b xs ys, x = .ref a ∧ y = .ref b ∧ SqL K H a xs ∧ SqL K H b ys ∧ xs.all flatV = true ∧ ys.all flatV = true ∧ Q (.bl (!eqVs xs ys)) H
theorem ne_at {prog : Program} {w : World} {A : Around} {E : Value → Shared → Prop} {s : Shared} {l b : Addr} {items items2 : Array Value} {e : Nat → Bool} {Q : Value → Shared → Prop} (hl : s.heap.IsList l items) (hb : s.heap.IsList b items2) (hsz : items.size = items2.size) (hu : A.units < cLine)
    (he : ∀ j (h1 : j < items.size) (h2 : j < items2.size), SeqAt.EqAt A.in1 s items[j] items2[j] (e j)) (h : Q (.bool (!((List.range items.size).all e))) s) : wpAny (model prog w) A (compareOp .NotEq (.ref l) (.ref b)) Q E s := by
  obtain ⟨⟨c, dd, dt, sl⟩, ho, hc, n, hd⟩ := hl
  obtain ⟨⟨c2, dd2, dt2, sl2⟩, ho2, hc2, n2, hd2⟩ := hb
  dsimp only at hc hd hc2 hd2
  subst hc hd hc2 hd2
  exact richCompare_meets_room (op := .NotEq) ⟨_, ho, rfl⟩ ⟨_, ho2, rfl⟩ F.slot_list_ne F.entry_list_ne (F.args_list_ne_2 _ _) (SeqAt.list_neAt l b items items2 n n2 dd dd2 sl sl2 hsz e)
    ⟨ho, ho2, he, ⟨(fun x => nomatch x), h⟩⟩ hu
theorem ne_at_len {prog : Program} {w : World} {A : Around} {E : Value → Shared → Prop} {s : Shared} {l b : Addr} {items items2 : Array Value} {Q : Value → Shared → Prop} (hl : s.heap.IsList l items) (hb : s.heap.IsList b items2) (hsz : (items.size != items2.size) = true) (hu : A.units < cLine)
    (h : Q (.bool true) s) : wpAny (model prog w) A (compareOp .NotEq (.ref l) (.ref b)) Q E s := by
  obtain ⟨⟨c, dd, dt, sl⟩, ho, hc, n, hd⟩ := hl
  obtain ⟨⟨c2, dd2, dt2, sl2⟩, ho2, hc2, n2, hd2⟩ := hb
  dsimp only at hc hd hc2 hd2
  subst hc hd hc2 hd2
  exact richCompare_meets_room (op := .NotEq) ⟨_, ho, rfl⟩ ⟨_, ho2, rfl⟩ F.slot_list_ne F.entry_list_ne (F.args_list_ne_2 _ _) (SeqAt.list_ne_lengthsAt l b items items2 n n2 dd dd2 sl sl2 hsz)
    ⟨ho, ho2, ⟨(fun x => nomatch x), h⟩⟩ hu
theorem op_neL (hu : X.A.units < cLine) : OpR X (compareOp .NotEq) (rNeL X.K) := by
  intro pins s σ H x y v u Q I rx ry h
  obtain ⟨a, b, xs, ys, rfl, rfl, hx, hy, fx, fy, q⟩ := h
  cases rx
  cases ry
  obtain ⟨us, r1, p1, z1⟩ := I.list hx
  obtain ⟨vs, r2, p2, z2⟩ := I.list hy
  by_cases hl : xs.length = ys.length
  · refine ne_at p1.isList p2.isList (by simp [← r1.length, ← r2.length, hl]) hu (items_eqAt r1 r2 fx fy) ⟨.bl (!eqVs xs ys), H, I, ?_, q⟩
    show Value.bool _ = Value.bool _
    rw [← eqVs_range xs ys hl]; simp [← r1.length]
  · refine ne_at_len p1.isList p2.isList (by simpa [← r1.length, ← r2.length] using hl) hu ⟨.bl (!eqVs xs ys), H, I, ?_, q⟩
    show Value.bool _ = Value.bool _
    rw [eqVs_len xs ys hl]; rfl
theorem range_any (bs : List Bool) : (List.range bs.length).any (fun i => bs.getD i false) = bs.any id := by
  induction bs with
  | nil => rfl
  | cons b r ih =>
    rw [List.length_cons, List.range_succ_eq_map, List.any_cons, List.any_map, List.any_cons, ← ih]; rfl
theorem range_all (bs : List Bool) : (List.range bs.length).all (fun i => bs.getD i false) = bs.all id := by
  induction bs with
  | nil => rfl
  | cons b r ih =>
    rw [List.length_cons, List.range_succ_eq_map, List.all_cons, List.all_map, List.all_cons, ← ih]; rfl
theorem truth_bools {prog : Program} {w : World} {A : Around} {bs : List Bool} {its : List Value} (r : Vals (bs.map V.bl) its) : TruthOf prog w A (fun i v => its.toArray[i]? = some v) (fun i => bs.getD i false) := by
  intro i v s Q E hv hq
  have hv' : its[i]? = some v := by simpa using hv
  have hi : i < its.length := (List.getElem?_eq_some_iff.mp hv').1
  have hb : i < bs.length := by have := r.length; simp at this; omega
  obtain ⟨u, hu, ru⟩ := r.get (i := i) (x := .bl bs[i]) (by simp [hb])
  rw [hv'] at hu
  cases hu
  cases ru
  have e : bs.getD i false = bs[i] := by simp [List.getD, hb]
  have hq' : Q (bs.getD i false) s := hq
  rw [e] at hq'
  exact wpAny_pure hq'
theorem call_anyL (hc : X.calm = true) : CallR X (.builtin "any") (fun xs H Q => ∃ (p : Addr) (bs : List Bool), xs = [V.ref p] ∧ H p = some (.lst (bs.map V.bl)) ∧ Q (.bl (bs.any id)) H) := by
  intro pins s σ H xs us Q I r h
  obtain ⟨p, bs, rfl, hp, q⟩ := h
  obtain ⟨u, rfl, ru⟩ := vals1 r
  cases ru
  obtain ⟨its, rv, pl, hz⟩ := I.list (SqL.of (K := X.K) hp)
  have lt : p < s.heap.objs.size := by obtain ⟨o, n, e, _⟩ := pl; exact Heap.lt_size e
  refine call_any_walk (wpAny_pyIter_list pl.isList ⟨_, _, _, _, _, _, fun i => bs.getD i false, rfl, Walks.list (A := X.A.in1) (I.ok.hd hc) _ p (Nat.ne_of_lt lt) its.toArray, ⟨⟨_, Heap.get?_push_size _ rfl, rfl, rfl⟩, pl.isList.push _⟩, truth_bools rv, fun h' tk k => ?_⟩)
  refine ⟨.bl (bs.any id), H, ?_, ?_, q⟩
  · exact I.kept (t' := tk) fun b o e => k b o (by simp; exact Nat.ne_of_lt (Heap.lt_size e)) (Heap.get?_push_of_some _ e)
  · show Value.bool _ = Value.bool _
    have e : its.toArray.size = bs.length := by have := rv.length; simp at this; simp [this]
    rw [e, range_any]
theorem call_allL (hc : X.calm = true) : CallR X (.builtin "all") (fun xs H Q => ∃ (p : Addr) (bs : List Bool), xs = [V.ref p] ∧ H p = some (.lst (bs.map V.bl)) ∧ Q (.bl (bs.all id)) H) := by
  intro pins s σ H xs us Q I r h
  obtain ⟨p, bs, rfl, hp, q⟩ := h
  obtain ⟨u, rfl, ru⟩ := vals1 r
  cases ru
  obtain ⟨its, rv, pl, hz⟩ := I.list (SqL.of (K := X.K) hp)
  have lt : p < s.heap.objs.size := by obtain ⟨o, n, e, _⟩ := pl; exact Heap.lt_size e
  refine call_all_walk (wpAny_pyIter_list pl.isList ⟨_, _, _, _, _, _, fun i => bs.getD i false, rfl, Walks.list (A := X.A.in1) (I.ok.hd hc) _ p (Nat.ne_of_lt lt) its.toArray, ⟨⟨_, Heap.get?_push_size _ rfl, rfl, rfl⟩, pl.isList.push _⟩, truth_bools rv, fun h' tk k => ?_⟩)
  refine ⟨.bl (bs.all id), H, ?_, ?_, q⟩
  · exact I.kept (t' := tk) fun b o e => k b o (by simp; exact Nat.ne_of_lt (Heap.lt_size e)) (Heap.get?_push_of_some _ e)
  · show Value.bool _ = Value.bool _
    have e : its.toArray.size = bs.length := by have := rv.length; simp at this; simp [this]
    rw [e, range_all]
theorem call_isi : CallR X (.builtin "isinstance") (fun xs H Q => ∃ x n t b, xs = [x, .ty n] ∧ TyOf X.K H x t ∧ PySem.W.kitOne X.K t (.type n) = some b ∧ Q (.bl b) H) := by
  intro pins s σ H xs us Q I r h
  obtain ⟨x, n, t, b, rfl, ty, e, q⟩ := h
  obtain ⟨u, c, rfl, r1, r2⟩ := vals2 r
  cases (show c = Value.type n from r2)
  exact isinst_ok I r1 ty e fun tk => ⟨.bl b, H, I.tok tk, rfl, q⟩
theorem ix_kd : IxR X (fun x y H Q => ∃ a es n z v u, x = .ref a ∧ y = .str z ∧ X.K.lookup a = some ⟨.type "dict", none, .dict es n, #[]⟩ ∧ PySem.W.KeysLit X.w.params es.toList ∧ PySem.W.nsIn X.K a z = some (some u) ∧ RelV v u ∧ Q v H) := by
  intro value slice pins s σ H x y v u Q I rx ry h hs
  obtain ⟨a, es, n, z, vv, uu, rfl, rfl, hl, hk, he, rv, q⟩ := h
  cases rx
  obtain ⟨t, rfl⟩ := ry
  obtain ⟨m, F⟩ := I.fr
  exact PySem.W.topItem_K F I.mod.kin hl hk he ⟨vv, H, I.tok _, rv, q⟩ hs
end
end L2
end
section
namespace L2
open PySem PySem.Spec PyProof.Rows
def SetO (w : World) (a : Addr) (ns : List Int) : HO := .ext fun h => SetX.SetAt w h a ns
section
variable {X : Cx} {pins : List (Addr × Obj)} {σ : St} {H : Hp} {s : Shared} {h' : Heap}
theorem Inv.laidS {a : Addr} {o : HO} {s' : Shared} (I : Inv X pins σ H s) (ho : s'.os = s.os) (hg : s'.gens = s.gens) (k : ∀ b u, s.heap.get? b = some u → s'.heap.get? b = some u) (hp : s.heap.objs.size ≤ a) (new : ObjOk X.prog X.w (upd H a o) s'.heap a o) : Inv X pins σ (upd H a o) s' := by
  have u : Un (frs X.stack) [] H (upd H a o) s.heap s'.heap := Un.laid k hp (I.hok.fresh hp)
  exact I.call' (ch := []) ho u (I.hok.laid k hp new) (by rw [hg]; exact I.bare) fun b hb => nomatch hb
theorem setO_ok {w : World} {P : Program} {a : Addr} {ns : List Int} {H' : Hp} (S : SetX.SetAt w h' a ns) : ObjOk P w H' h' a (SetO w a ns) :=
  ⟨S, (let ⟨o, _, _, _, e, _⟩ := S; ⟨o, e⟩), fun _ _ q k => q.keeps k⟩
theorem Inv.setAt {a : Addr} {ns : List Int} (I : Inv X pins σ H s) (e : H a = some (SetO X.w a ns)) : SetX.SetAt X.w s.heap a ns := (I.hok a _ e).1
end
section
variable {X : Cx}
theorem call_setL (hc : X.calm = true) : CallR X (.type "set") (fun xs H Q => ∃ (l : Addr) (ns : List Int), xs = [.ref l] ∧ SqL X.K H l (ns.map V.int) ∧ ns.length ≤ 1000 ∧ ∀ (p : Addr) (ms : List Int), H p = none → (∀ y, y ∈ ms ↔ y ∈ ns) → ms.Nodup → Q (.ref p) (upd H p (SetO X.w p ms))) := by
  intro pins s σ H xs us Q I r h
  obtain ⟨l, ns, rfl, hq, hl, q⟩ := h
  obtain ⟨u, rfl, ru⟩ := vals1 r
  cases ru
  obtain ⟨its, rv, p, hz⟩ := I.list hq
  have hi : IntsAre its ns := intsAre_of rv
  have hn : its.length = ns.length := hi.length
  refine SetX.call_set_listX (I.ok.hd hc) p.isList (by simpa using hi) (by have : scanBound = 4096 := rfl; simp; omega) fun h1 tk ms S m2 k => ?_
  have nd : ms.Nodup := by obtain ⟨_, _, _, _, _, _, _, _, rfl, z, _⟩ := S; exact z
  exact ⟨.ref s.heap.objs.size, _, I.laidS (s' := { s with heap := h1, toks := tk }) rfl rfl (fun b u e => k b u (Heap.lt_size e) e) (Nat.le_refl _) (setO_ok S), rfl, q _ ms (I.hok.fresh (Nat.le_refl _)) m2 nd⟩
theorem op_andS : OpR X (binaryOp .BitAnd) (fun x y H Q => ∃ (a b : Addr) (ns ms : List Int), x = .ref a ∧ y = .ref b ∧ b ≠ a ∧ H a = some (SetO X.w a ns) ∧ H b = some (SetO X.w b ms) ∧ ∀ (p : Addr) (ks : List Int), H p = none → (∀ y, y ∈ ks ↔ y ∈ ns ∧ y ∈ ms) → Q (.ref p) (upd H p (SetO X.w p ks))) := by
  intro pins s σ H x y v u Q I rx ry h
  obtain ⟨a, b, ns, ms, rfl, rfl, hab, ha, hb, q⟩ := h
  cases rx
  cases ry
  refine SetX.and_setsX hab (I.setAt ha) (I.setAt hb) fun h1 d ks S m2 k => ?_
  exact ⟨.ref s.heap.objs.size, _, I.laidS (s' := { s with heap := h1, drawn := d }) rfl rfl (fun b u e => k b u e) (Nat.le_refl _) (setO_ok S), rfl, q _ ks (I.hok.fresh (Nat.le_refl _)) m2⟩
theorem call_lenS : CallR X (.builtin "len") (fun xs H Q => ∃ (a : Addr) (ns : List Int), xs = [V.ref a] ∧ H a = some (SetO X.w a ns) ∧ Q (.int ns.length) H) := by
  intro pins s σ H xs us Q I r h
  obtain ⟨a, ns, rfl, ha, q⟩ := h
  obtain ⟨u, rfl, ru⟩ := vals1 r
  cases ru
  exact SetX.len_setX (I.setAt ha) fun t tk => ⟨.int ns.length, H, I.tok tk, ⟨t, rfl⟩, q⟩
def cntS (c : Nat) (z : Str) : Nat := z.cps.toList.count c
theorem cnt_count (c : Nat) : ∀ l : List Nat, PyProof.Rows.cnt c l = (l.count c : Int)
  | [] => rfl
  | n :: r => by
    rw [PyProof.Rows.cnt_cons, cnt_count c r, List.count_cons]
    by_cases e : n = c
    · subst e; simp; omega
    · simp [e]
theorem mt_count : MtR X "str.count" (fun x xs H Q => ∃ (z : Str) (c : Nat), x = .str z ∧ xs = [.str ⟨#[c]⟩] ∧ Q (.int (cntS c z)) H) := by
  intro pins s σ H x xs v us Q I rx rs h
  obtain ⟨z, c, rfl, rfl, q⟩ := h
  obtain ⟨t, rfl⟩ := rx
  obtain ⟨u, rfl, t', rfl⟩ := vals1 rs
  refine SC.count ⟨.int (cntS c z), H, I.tok _, ⟨s.toks, ?_⟩, q⟩
  have e : Txt.count z ⟨#[c]⟩ = PyProof.Rows.cnt c z.cps.toList := PyProof.Rows.count_is z c
  rw [e, cnt_count]; rfl
theorem mt_join : MtR X "str.join" (fun x xs H Q => ∃ (z : Str) (p : Addr) (ys : List Str), x = .str z ∧ xs = [.ref p] ∧ SqL X.K H p (ys.map V.str) ∧ (ys.map (·.length)).sum + ys.length * z.length ≤ 16777216 ∧ Q (.str (Txt.join z ys)) H) := by
  intro pins s σ H x xs v us Q I rx rs h
  obtain ⟨z, p, ys, rfl, rfl, hq, hz, q⟩ := h
  obtain ⟨t, rfl⟩ := rx
  obtain ⟨u, rfl, ru⟩ := vals1 rs
  cases ru
  obtain ⟨its, rv, pl, _⟩ := I.list hq
  have hs : StrsAre its ys := by
    have all : ∀ (ys : List Str) (its : List Value), Vals (ys.map V.str) its → StrsAre its ys := by
      intro ys
      induction ys with
      | nil => intro its r; cases r; exact .nil
      | cons y r ih =>
        intro its rr
        cases rr with
        | cons r1 r2 => obtain ⟨t, rfl⟩ := r1; exact .cons _ _ (ih _ r2)
    exact all ys its rv
  exact join_list pl.isList (by simpa using hs) hz fun t' k => ⟨.str (Txt.join z ys), H, I.tok _, ⟨t', rfl⟩, q⟩
theorem op_mulS : OpR X (binaryOp .Mult) (fun x y H Q => ∃ (z : Str) (n : Int), x = .str z ∧ y = .int n ∧ MulOk z n ∧ Q (.str (Txt.mul z n)) H) := by
  intro pins s σ H x y v u Q I rx ry h
  obtain ⟨z, n, rfl, rfl, hk, q⟩ := h
  obtain ⟨t, rfl⟩ := rx
  obtain ⟨t', rfl⟩ := ry
  exact SB.mul hk fun t1 k => ⟨.str (Txt.mul z n), H, I.tok _, ⟨t1, rfl⟩, q⟩
theorem sl_str : SlR X (fun x lo hi H Q => ∃ (z : Str), x = .str z ∧ z.length ≤ sizeLine ∧ Q (.str (Txt.slice z lo hi)) H) := by
  intro pins s σ H x v vl vu lo hi sl Q I rx hs pl pu h
  obtain ⟨z, rfl, hz, q⟩ := h
  obtain ⟨t, rfl⟩ := rx
  refine ⟨"str", _, F.slot_str_getitem.lookup, typeIs_str _ _ _, ?_⟩
  have fin : ∀ l u : Option (Int × Tok), s.heap.IsSlice sl l u none → l.map (·.1) = lo → u.map (·.1) = hi → wpAny (model X.prog X.w) X.A (getItem (.str z t) (.ref sl)) (EP X pins σ Q) X.xe s := by
    intro l u hS hl hu
    subst hl hu
    refine wpAny_getItem_str_slice (l := l) (u := u) (st := none) hS rfl ?_
    exact post_val_or_str ⟨Nat.le_trans (Txt.slice_le z _ _) hz, fun t' k => ⟨.str (Txt.slice z _ _), H, I.tok _, ⟨t', rfl⟩, q⟩⟩
  cases pl with
  | none => cases pu with
    | none => exact fin none none hs rfl rfl
    | int j u => exact fin none (some (j, u)) hs rfl rfl
  | int i u' => cases pu with
    | none => exact fin (some (i, u')) none hs rfl rfl
    | int j u => exact fin (some (i, u')) (some (j, u)) hs rfl rfl
end
end L2
end
section
namespace Mir
inductive P3 | L | R | E
  deriving DecidableEq
open P3
def other : P3 → P3 | L => R | R => L | E => E
def Sign (c : Nat) : Prop := c = 101 ∨ c = 104 ∨ c = 108 ∨ c = 103
def mayH (c : Nat) : Bool := c == 101 || c == 104
def mayL (c : Nat) : Bool := c == 101 || c == 108
def pl (l r : List Int) (k : Int) : P3 := if k ∈ r then R else if k ∈ l then L else E
def sb (c : Nat) (p o : P3) : Nat :=
  if mayH c && decide (p = o) then (if mayL c && decide (other p = o) then 101 else 104) else if mayL c && decide (other p = o) then 108 else 103
def c1 (c : Nat) (p o : P3) : Nat := (if mayH c && decide (p = o) then 1 else 0) + (if mayL c && decide (other p = o) then 1 else 0)
def aft (l r : List Int) (o : P3) : Nat → List Nat → List Nat
  | _, [] => []
  | i, c :: cs => sb c (pl l r i) o :: aft l r o (i + 1) cs
def cs1 (l r : List Int) (o : P3) : Nat → List Nat → Nat
  | _, [] => 0
  | i, c :: cs => c1 c (pl l r i) o + cs1 l r o (i + 1) cs
theorem sb_count {c : Nat} (h : Sign c) (p o : P3) : 2 * [sb c p o].count 101 + [sb c p o].count 104 + [sb c p o].count 108 = c1 c p o := by
  rcases h with rfl | rfl | rfl | rfl <;> cases p <;> cases o <;> rfl
theorem aft_count {l r : List Int} {o : P3} : ∀ {cs : List Nat} (i : Nat), (∀ c ∈ cs, Sign c) → 2 * (aft l r o i cs).count 101 + (aft l r o i cs).count 104 + (aft l r o i cs).count 108 = cs1 l r o i cs
  | [], _, _ => rfl
  | c :: cs, i, h => by
    have h1 := sb_count (h c List.mem_cons_self) (pl l r i) o
    have ih := aft_count (l := l) (r := r) (o := o) (i + 1) fun d hd => h d (List.mem_cons_of_mem _ hd)
    show 2 * (sb c (pl l r i) o :: aft l r o (i + 1) cs).count 101 + (sb c (pl l r i) o :: aft l r o (i + 1) cs).count 104 + (sb c (pl l r i) o :: aft l r o (i + 1) cs).count 108 = c1 c (pl l r i) o + cs1 l r o (i + 1) cs
    have e : ∀ d, (sb c (pl l r i) o :: aft l r o (i + 1) cs).count d = [sb c (pl l r i) o].count d + (aft l r o (i + 1) cs).count d := fun d => by
      rw [List.count_cons, List.count_cons, List.count_nil]; omega
    rw [e, e, e]
    omega
theorem aft_len {l r : List Int} {o : P3} : ∀ (cs : List Nat) (i : Nat), (aft l r o i cs).length = cs.length
  | [], _ => rfl
  | _ :: cs, i => by show _ + 1 = _ + 1; rw [aft_len cs (i + 1)]
theorem cs1_snoc {l r : List Int} {o : P3} : ∀ (cs : List Nat) (i c : Nat), cs1 l r o i (cs ++ [c]) = cs1 l r o i cs + c1 c (pl l r ((i + cs.length : Nat) : Int)) o
  | [], i, c => by show c1 c (pl l r i) o + 0 = 0 + _; simp
  | d :: cs, i, c => by
    show c1 d _ o + cs1 l r o (i + 1) (cs ++ [c]) = c1 d _ o + cs1 l r o (i + 1) cs + _
    rw [cs1_snoc cs (i + 1) c]
    have e : i + 1 + cs.length = i + (d :: cs).length := by simp; omega
    rw [e]; omega
theorem aft_snoc {l r : List Int} {o : P3} : ∀ (cs : List Nat) (i c : Nat), aft l r o i (cs ++ [c]) = aft l r o i cs ++ [sb c (pl l r ((i + cs.length : Nat) : Int)) o]
  | [], i, c => by show [sb c (pl l r i) o] = [] ++ [_]; simp
  | d :: cs, i, c => by
    show sb d _ o :: aft l r o (i + 1) (cs ++ [c]) = sb d _ o :: (aft l r o (i + 1) cs ++ _)
    rw [aft_snoc cs (i + 1) c]
    have e : i + 1 + cs.length = i + (d :: cs).length := by simp; omega
    rw [e]
structure Wg (n : Int) (l r : List Int) : Prop where
  risL : l.Pairwise (· < ·)
  risR : r.Pairwise (· < ·)
  inL : ∀ k ∈ l, 0 ≤ k ∧ k ≤ n
  inR : ∀ k ∈ r, 0 ≤ k ∧ k ≤ n
  len : l.length = r.length
  dis : ∀ k ∈ l, k ∉ r
theorem rise_ext : ∀ {l m : List Int}, l.Pairwise (· < ·) → m.Pairwise (· ≤ ·) → m.Nodup → (∀ y, y ∈ m ↔ y ∈ l) → m = l
  | [], [], _, _, _, _ => rfl
  | [], y :: m, _, _, _, h => absurd ((h y).mp List.mem_cons_self) (by simp)
  | x :: l, [], _, _, _, h => absurd ((h x).mpr List.mem_cons_self) (by simp)
  | x :: l, y :: m, hl, hm, hn, h => by
    obtain ⟨l1, l2⟩ := List.pairwise_cons.mp hl
    obtain ⟨m1, m2⟩ := List.pairwise_cons.mp hm
    obtain ⟨n1, n2⟩ := List.nodup_cons.mp hn
    have e : y = x := by
      have a : x ≤ y := by
        rcases List.mem_cons.mp ((h y).mp List.mem_cons_self) with z | z
        · omega
        · have := l1 y z; omega
      have b : y ≤ x := by
        rcases List.mem_cons.mp ((h x).mpr List.mem_cons_self) with z | z
        · omega
        · exact m1 x z
      omega
    subst e
    rw [rise_ext l2 m2 n2 fun z => ?_]
    constructor
    · intro hz
      rcases List.mem_cons.mp ((h z).mp (List.mem_cons_of_mem _ hz)) with q | q
      · exact absurd (q ▸ hz) n1
      · exact q
    · intro hz
      rcases List.mem_cons.mp ((h z).mpr (List.mem_cons_of_mem _ hz)) with q | q
      · exact absurd (l1 z hz) (by omega)
      · exact q
end Mir
end
section
namespace PySem.W
open PySem PySem.Spec PySem.Calls PyProof.Rows
section
variable {prog : Program} {w : World} {A : Around} {E : Value → Shared → Prop} {s : Shared} {K : Frag} {x D : Addr} {ox : Obj}
structure XCls (K : Frag) (D : Addr) : Prop where
  ga : findIn K (.ref D) "__getattribute__" = some (some (.builtin "BaseException.__getattribute__"))
  gn : findIn K (.ref D) "__getattr__" = some none
  fo : findObj K D none "__class__" = some (.bind (.builtin "getset_descriptor.__get__") (.builtin "object.__class__"))
  be : mroIn K D (.type "BaseException") = some true
  ob : mroIn K D (.type "object") = some true
  cl : (clsIn K D).isSome = true
end
end PySem.W
end
section
namespace PySem
open Sem (wp)
def ExcSh (h : Heap) (e : Addr) (C t1 c2 : Value) : Prop := ∃ oe vs, h.get? e = some oe ∧ oe.cls = C ∧ oe.dict = none ∧ oe.data = .fields vs ∧ vs[1]? = some t1 ∧ vs[2]? = some c2
def TbSh (h : Heap) (T : Addr) (fl : Value) : Prop := ∃ oT ts, h.get? T = some oT ∧ oT.data = .fields ts ∧ ts[3]? = some fl
def KeepX (fs ch : List Addr) (h h' : Heap) : Prop := (∀ b o, b ∉ ch → b ∉ fs → h.get? b = some o → h'.get? b = some o) ∧ ∀ b o, b ∉ ch → b ∈ fs → h.get? b = some o → ∃ sl, h'.get? b = some { o with slots := sl }
theorem KeepX.any {fs ch : List Addr} {h h' : Heap} (k : KeepX fs ch h h') {b : Addr} {o : Obj} (hb : b ∉ ch) (e : h.get? b = some o) : ∃ sl, h'.get? b = some { o with slots := sl } := by
  by_cases hf : b ∈ fs
  · exact k.2 b o hb hf e
  · exact ⟨o.slots, k.1 b o hb hf e⟩
theorem KeepX.mono {fs ch ch' : List Addr} {h1 h2 : Heap} (a : KeepX fs ch h1 h2) (s : ∀ b ∈ ch, b ∈ ch') : KeepX fs ch' h1 h2 := ⟨fun x o c f e => a.1 x o (fun z => c (s x z)) f e, fun x o c f e => a.2 x o (fun z => c (s x z)) f e⟩
theorem KeepX.then1 {fs ch : List Addr} {h1 h2 h3 : Heap} {T : Addr} (a : KeepX fs ch h1 h2) (b : KeepX fs [T] h2 h3) (n : h1.get? T = none ∨ T ∈ ch) : KeepX fs ch h1 h3 := by
  have ne : ∀ x o, x ∉ ch → h1.get? x = some o → x ∉ [T] := fun x o c e z => by
    simp at z; subst z
    rcases n with n | n
    · rw [n] at e; cases e
    · exact c n
  exact ⟨fun x o c f e => b.1 x o (ne x o c e) f (a.1 x o c f e), fun x o c f e => by obtain ⟨sl, e1⟩ := a.2 x o c f e; obtain ⟨sl', e2⟩ := b.2 x _ (ne x o c e) f e1; exact ⟨sl', e2⟩⟩
theorem dict_mapF (o : Obj) (f : Array Value → Array Value) : (o.mapFields f).dict = o.dict := by
  obtain ⟨c, d, dt, sl⟩ := o
  cases dt <;> rfl
section
variable {M : Model} {A : Around} {E : Value → Shared → Prop} {s : Shared}
theorem entryX {base : Heap} {env env' : Env} {outer : List Env} {L e : Addr} {C t1 c2 head : Value} {hadNext : Bool} {Q : Unit → Shared → Prop} (hfr : A.frames = some (env :: outer)) (hl : s.heap.FunFrames base (env :: outer)) (hf : env.frame = some L) (hf' : env'.frame = some L) (he : ExcSh s.heap e C t1 c2)
    (k : ∀ h' T, s.heap.objs.size ≤ T → T ≠ e → ExcSh h' e C (.ref T) c2 → TbSh h' T (rawInt L) → KeepX ((env :: outer).filterMap (·.frame)) [e] s.heap h' → Q () { s with heap := h' }) :
    wpAny M A (do let a ← frameOf env'; let pl ← entryPlaceOf L hadNext; let b ← EntryCells.newEntry head a .none (rawInt L) .none pl; setField (.ref e) 1 b) Q E s := by
  obtain ⟨oe, vs, h0, hc, hdc, hd, h1, h2⟩ := he
  have ef : frameOf env' = frameOf env := by unfold frameOf; rw [hf, hf']
  rw [ef]
  have nf : e ∉ (env :: outer).filterMap (·.frame) := fun hm => by obtain ⟨_, o, ho, hn⟩ := hl.mem hm; rw [h0] at ho; cases ho; exact hn vs hd
  refine wpAny_bind (wpAny_frameOf_fun hfr hl hf fun g1 sg => wpAny_bind (wpAny_entryPlaceOf fun pl hpl => ?_))
  unfold EntryCells.newEntry newFields
  refine wpAny_bind (wpAny_newObj_type ?_ (hpl.sizeOk5 _ _ _ _ _))
  have a1 : g1.get? e = some oe := (sg.2.1 e nf).trans h0
  generalize hoT : ({ cls := .type "traceback", dict := none, data := .fields ([head, .ref L, .none, rawInt L, .none] ++ (if pl.isEmpty then List.replicate 6 Value.none else pl)).toArray } : Obj) = oT
  have hsz : 1 < vs.size := (Array.getElem?_eq_some_iff.mp h1).1
  have a2 := Heap.get?_push_of_some (h := g1) oT a1
  refine wpAny_setField a2 hd hsz ?_
  have ne : g1.objs.size ≠ e := Nat.ne_of_gt (Heap.lt_size a1)
  have d3 := Obj.data_mapFields hd (·.setIfInBounds 1 (Value.ref g1.objs.size))
  have fr0 : oT.isFreed = false := by subst hoT; rfl
  refine k _ g1.objs.size (by rw [sg.1]; exact Nat.le_refl _) ne ⟨_, _, Heap.get?_update_self _ a2 (Obj.isFreed_of_fields d3), (Obj.cls_mapFields _ _).trans hc, ?_, d3, by simp [hsz], ?_⟩ ⟨oT, _, ?_, by subst hoT; rfl, ?_⟩ ⟨fun b o hb hfs eb => ?_, fun b o hb hfs eb => ?_⟩
  · rw [dict_mapF]; exact hdc
  · rw [Array.getElem?_setIfInBounds_ne (by decide)]; exact h2
  · rw [Heap.get?_update_other _ _ (Ne.symm ne)]; exact Heap.get?_push_size g1 fr0
  · simp
  · have hbe : b ≠ e := fun z => hb (by simp [z])
    rw [Heap.get?_update_other _ _ (Ne.symm hbe)]
    exact Heap.get?_push_of_some _ ((sg.2.1 b hfs).trans eb)
  · have hbe : b ≠ e := fun z => hb (by simp [z])
    obtain ⟨sl, q⟩ := sg.2.2 b o eb
    exact ⟨sl, by rw [Heap.get?_update_other _ _ (Ne.symm hbe)]; exact Heap.get?_push_of_some _ q⟩
def NoFl (h : Heap) (e : Addr) (t1 : Value) : Prop := t1 = .none ∨ ∃ T fl, t1 = .ref T ∧ T ≠ e ∧ TbSh h T fl
theorem setFlX {e T : Addr} {C c2 fl : Value} {fs : List Addr} {fr : Option Addr} {Q : Unit → Shared → Prop} (n : T ≠ e) (he : ExcSh s.heap e C (.ref T) c2) (ht : TbSh s.heap T fl)
    (k : ∀ h', (∀ o, s.heap.get? e = some o → h'.get? e = some o) → ExcSh h' e C (.ref T) c2 → TbSh h' T (fr.elim .none fun f => rawInt f) → KeepX fs [T] s.heap h' → Q () { s with heap := h' }) : wpAny M A (setFlight (.ref e) fr) Q E s := by
  obtain ⟨oe, vs, h0, hc, hdc, hd, h1, h2⟩ := he
  obtain ⟨oT, ts, g0, gd, g3⟩ := ht
  have sz : 3 < ts.size := (Array.getElem?_eq_some_iff.mp g3).1
  unfold setFlight
  refine wpAny_bind (wpAny_field h0 hd h1 ?_)
  rw [if_pos (show (Value.ref T != Value.none) = true from by simp)]
  refine wpAny_setField g0 gd sz (k _ (fun o q => by rw [Heap.get?_update_other _ _ n]; exact q) ⟨oe, vs, by rw [Heap.get?_update_other _ _ n]; exact h0, hc, hdc, hd, h1, h2⟩ ⟨_, _, Heap.get?_update_self _ g0 (Obj.isFreed_of_fields (Obj.data_mapFields gd _)), Obj.data_mapFields gd _, by simp [sz]⟩ ⟨fun b o hb _ q => ?_, fun b o hb _ q => ⟨o.slots, ?_⟩⟩)
  · rw [Heap.get?_update_other _ _ (fun z => hb (by simp [z]))]; exact q
  · rw [Heap.get?_update_other _ _ (fun z => hb (by simp [z]))]; exact q
theorem noteX {base : Heap} {env env' : Env} {outer : List Env} {L e : Addr} {C t1 c2 : Value} {ch : List Addr} {Q : Unit → Shared → Prop} (hfr : A.frames = some (env :: outer)) (hl : s.heap.FunFrames base (env :: outer)) (hf : env.frame = some L) (hf' : env'.frame = some L) (he : ExcSh s.heap e C t1 c2) (ht : NoFl s.heap e t1)
    (hch : e ∈ ch) (hch' : ∀ T, t1 = .ref T → T ∈ ch)
    (k : ∀ h' T, (s.heap.objs.size ≤ T ∨ t1 = .ref T) → T ≠ e → ExcSh h' e C (.ref T) c2 → TbSh h' T (rawInt L) → KeepX ((env :: outer).filterMap (·.frame)) ch s.heap h' → Q () { s with heap := h' }) :
    wpAny M A (noteFrame (.ref e) env') Q E s := by
  obtain ⟨oe, vs, h0, hc, hdc, hd, h1, h2⟩ := id he
  unfold noteFrame
  simp only [hf']
  refine wpAny_bind (wpAny_field h0 hd h1 ?_)
  rcases ht with rfl | ⟨T, fl, rfl, hTe, oT, ts, g0, gd, g3⟩
  · rw [if_neg (show ¬ ((Value.none != Value.none) = true) from by simp)]
    exact entryX hfr hl hf hf' he fun g T n1 n2 x1 x2 x3 => k g T (.inl n1) n2 x1 x2 (x3.mono fun b hb => by simp at hb; rw [hb]; exact hch)
  · rw [if_pos (show (Value.ref T != Value.none) = true from by simp)]
    refine wpAny_bind (wpAny_field g0 gd g3 ?_)
    by_cases hfl : (fl == rawInt L) = true
    · rw [if_pos hfl]
      have e3 : fl = rawInt L := eq_of_beq hfl
      subst e3
      exact wpAny_pure (k s.heap T (.inr rfl) hTe he ⟨oT, ts, g0, gd, g3⟩ ⟨fun _ _ _ _ q => q, fun _ o _ _ q => ⟨o.slots, q⟩⟩)
    rw [if_neg hfl]
    have sz : 3 < ts.size := (Array.getElem?_eq_some_iff.mp g3).1
    refine wpAny_bind (wpAny_setField g0 gd sz ?_)
    have oth : ∀ b, b ≠ T → (s.heap.update T (Obj.mapFields (·.setIfInBounds 3 Value.none))).get? b = s.heap.get? b := fun b hb => Heap.get?_update_other _ _ (Ne.symm hb)
    have szU : (s.heap.update T (Obj.mapFields (·.setIfInBounds 3 Value.none))).objs.size = s.heap.objs.size := by simp
    have nfT : ∀ b, b ∈ (env :: outer).filterMap (·.frame) → b ≠ T := fun b hb z => by obtain ⟨_, o, ho, hn⟩ := hl.mem hb; rw [z, g0] at ho; cases ho; exact hn ts gd
    have he' : ExcSh (s.heap.update T (Obj.mapFields (·.setIfInBounds 3 Value.none))) e C (.ref T) c2 := ⟨oe, vs, (oth e (Ne.symm hTe)).trans h0, hc, hdc, hd, h1, h2⟩
    have hl' : Heap.FunFrames (s.heap.update T (Obj.mapFields (·.setIfInBounds 3 Value.none))) base (env :: outer) := hl.of_keeps fun b o hb hn => ⟨o, (oth b fun z => by rw [z, g0] at hb; cases hb; exact hn ts gd).trans hb, rfl⟩
    refine entryX (s := { s with heap := s.heap.update T (Obj.mapFields (·.setIfInBounds 3 Value.none)) }) hfr hl' hf hf' he' fun g T' n1 n2 x1 x2 x3 => k g T' (.inl (by rw [← szU]; exact n1)) n2 x1 x2 ⟨fun b o hb hfs eb => ?_, fun b o hb hfs eb => ?_⟩
    · have nb : b ≠ T := fun z => hb (z ▸ hch' T rfl)
      exact x3.1 b o (fun z => by simp at z; exact hb (z ▸ hch)) hfs ((oth b nb).trans eb)
    · exact x3.2 b o (fun z => by simp at z; exact hb (z ▸ hch)) hfs ((oth b (nfT b hfs)).trans eb)
theorem leaveX {base : Heap} {env : Env} {outer : List Env} {L e : Addr} {C t1 c2 : Value} {ch : List Addr} {Q : Unit → Shared → Prop} (hfr : A.frames = some (env :: outer)) (hl : s.heap.FunFrames base (env :: outer)) (hf : env.frame = some L) (he : ExcSh s.heap e C t1 c2) (ht : NoFl s.heap e t1)
    (hch : e ∈ ch) (hch' : ∀ T, t1 = .ref T → T ∈ ch)
    (k : ∀ h' T, (s.heap.objs.size ≤ T ∨ t1 = .ref T) → T ≠ e → ExcSh h' e C (.ref T) c2 → TbSh h' T .none → KeepX ((env :: outer).filterMap (·.frame)) ch s.heap h' → Q () { s with heap := h' }) :
    wpAny M A (noteFrame (.ref e) env) (fun _ s2 => wpAny M A (setFlight (.ref e) none) Q E s2) E s :=
  noteX hfr hl hf hf he ht hch hch' fun g T n1 n2 x1 x2 x3 => setFlX (s := { s with heap := g }) n2 x1 x2 fun h' _ y1 y2 y3 => k h' T n1 n2 y1 y2 (x3.then1 y3 (n1.imp (fun z => Heap.get?_none_of_le z) (hch' T)))
end
end PySem
end
section
namespace L2
open PySem PySem.Spec PyProof.Rows
section
variable {P : Program} {w : World} {H H' : Hp} {h h' h0 : Heap} {a : Addr} {o : HO}
theorem ObjOk.there (x : ObjOk P w H h a o) : ∃ u, h.get? a = some u := by
  cases o with
  | lst xs => obtain ⟨_, _, _, _, e⟩ := x; exact ⟨_, e⟩
  | tup xs => obtain ⟨_, _, _, _, e, _⟩ := x; exact ⟨_, e⟩
  | dK kvs => obtain ⟨_, _, _, _, o, _, _, e, _⟩ := x; exact ⟨_, e⟩
  | dT kvs => obtain ⟨_, _, _, _, o, _, _, e, _⟩ := x; exact ⟨_, e⟩
  | set S n => obtain ⟨o, _, _, _, e, _⟩ := x; exact ⟨_, e⟩
  | ins C dx fs => obtain ⟨_, _, _, e, _⟩ := x; exact ⟨_, e⟩
  | own y => obtain ⟨_, e⟩ := x; exact ⟨_, e⟩
  | xd fs => obtain ⟨_, ⟨_, _, _, e, _⟩, _⟩ := x; exact ⟨_, e⟩
  | rng lo hi => obtain ⟨_, _, _, e⟩ := x; exact ⟨_, e⟩
  | frz ob u => obtain ⟨e, _⟩ := x; exact ⟨_, e⟩
  | tbl ps => exact ⟨_, (show h.get? a = some _ from x)⟩
  | met f y => exact ⟨_, (show h.get? a = some _ from x)⟩
  | ext φ => obtain ⟨_, ⟨_, e⟩, _⟩ := x; exact ⟨_, e⟩
theorem HOk.none_of (x : HOk P w H h) (e : h.get? a = none) : H a = none := by
  cases q : H a with
  | none => rfl
  | some u => obtain ⟨o, z⟩ := (x a u q).there; rw [e] at z; cases z
theorem HOk.leftX {fs ch : List Addr} (x : HOk P w H h) (k : KeepX fs ch h h') (hc : ∀ b ∈ ch, H b = none) (hf : ∀ b ∈ fs, H b = none) : HOk P w H h' := fun b u e => by
  refine (x b u e).stay (fun c v hc' q => k.1 c v (fun z => ?_) (fun z => ?_) q) (fun _ q => q) fun _ _ q => q
  · have n := hc c z
    rcases hc' with r | r
    · rw [r, e] at n; cases n
    · rw [r] at n; cases n
  · have n := hf c z
    rcases hc' with r | r
    · rw [r, e] at n; cases n
    · rw [r] at n; cases n
theorem Un.leftX {fs fs' ch ex : List Addr} {H0 : Hp} (u : Un fs ex H0 H h0 h) (k : KeepX fs' ch h h') (hc : ∀ b ∈ ch, h0.get? b = none) (hf : ∀ b o, h0.get? b = some o → b ∈ fs' → b ∈ fs) : Un fs ex H0 H h0 h' := by
  have nc : ∀ b o, h0.get? b = some o → b ∉ ch := fun b o e z => by rw [hc b z] at e; cases e
  refine ⟨fun b o e n hb hx => k.1 b o (nc b o e) (fun z => hb (hf b o e z)) (u.keep b o e n hb hx), fun b o e n hb hx => ?_, u.free, fun b o e hx => ?_, u.tups, u.frzs, u.tbls⟩
  · obtain ⟨sl, q⟩ := u.slot b o e n hb hx
    obtain ⟨sl', q'⟩ := k.any (nc b o e) q
    exact ⟨sl', q'⟩
  · obtain ⟨o', q⟩ := u.there b o e hx
    obtain ⟨sl', q'⟩ := k.any (nc b o e) q
    exact ⟨_, q'⟩
end
def New (h0 : Heap) (H : Hp) (b : Addr) : Prop := h0.get? b = none ∧ H b = none
def CtxOk (d : Bool) (h0 : Heap) (H : Hp) (a : Addr) (t1 c2 : Value) (h : Heap) : Prop := c2 = .none ∨ ∃ b ob vb, d = true ∧ c2 = .ref b ∧ b ≠ a ∧ t1 ≠ .ref b ∧ New h0 H b ∧ h.get? b = some ob ∧ ob.data = .fields vb ∧ vb[2]? = some .none
def FlX (d : Bool) (h0 : Heap) (H : Hp) (a C : Addr) (h : Heap) : Prop := New h0 H a ∧ ∃ t1 c2, ExcSh h a (.ref C) t1 c2 ∧ NoFl h a t1 ∧ (∀ T, t1 = .ref T → New h0 H T) ∧ CtxOk d h0 H a t1 c2 h
theorem CtxOk.new {d : Bool} {h0 h1 : Heap} {H H' : Hp} {a : Addr} {t1 c2 : Value} {h : Heap} (x : CtxOk d h0 H a t1 c2 h) (k : ∀ b, New h0 H b → New h1 H' b) : CtxOk d h1 H' a t1 c2 h := by
  rcases x with x | ⟨b, ob, vb, e0, e1, e2, e3, e4, e5⟩
  · exact .inl x
  · exact .inr ⟨b, ob, vb, e0, e1, e2, e3, k b e4, e5⟩
theorem FlX.new {d : Bool} {h0 h1 : Heap} {H H' : Hp} {a C : Addr} {h : Heap} (x : FlX d h0 H a C h) (k : ∀ b, New h0 H b → New h1 H' b) : FlX d h1 H' a C h := by
  obtain ⟨n, t1, c2, x1, x2, x3, x4⟩ := x
  exact ⟨k a n, t1, c2, x1, x2, fun T e => k T (x3 T e), x4.new k⟩
def CXE (d : Bool) (P : Program) (w : World) : CXT := fun outer H s E e s' => ∃ a C H', e = .ref a ∧ s'.os = s.os ∧ AllBare s'.gens ∧ Un (frs outer) [] H H' s.heap s'.heap ∧ HOk P w H' s'.heap ∧ FlX d s.heap H' a C s'.heap ∧ E (.ref C) none H'
def chX (a : Addr) (t1 : Value) : List Addr := a :: (match t1 with | .ref T => [T] | _ => [])
theorem chX_ref {a T : Addr} : T ∈ chX a (.ref T) := by simp [chX]
theorem chX_all {a : Addr} {t1 : Value} {p : Addr → Prop} (h1 : p a) (h2 : ∀ T, t1 = .ref T → p T) : ∀ b ∈ chX a t1, p b := fun b hb => by
  unfold chX at hb
  rcases List.mem_cons.mp hb with e | e
  · rw [e]; exact h1
  · cases t1 <;> simp at e
    rw [e]; exact h2 _ rfl
theorem CtxOk.step {d : Bool} {h0 : Heap} {H : Hp} {a T : Addr} {t1 c2 : Value} {h h' base : Heap} {l : List Env} (x : CtxOk d h0 H a t1 c2 h) (k : KeepX (l.filterMap (·.frame)) (chX a t1) h h') (hl : h.FunFrames base l) (n : h.objs.size ≤ T ∨ t1 = .ref T) : CtxOk d h0 H a (.ref T) c2 h' := by
  rcases x with x | ⟨b, ob, vb, e0, e1, e2, e3, e4, e5, e6, e7⟩
  · exact .inl x
  · have nb : b ∉ chX a t1 := fun hb => by
      unfold chX at hb
      rcases List.mem_cons.mp hb with z | z
      · exact e2 z
      · cases t1 <;> simp at z
        exact e3 (by rw [z])
    have nf : b ∉ l.filterMap (·.frame) := fun hb => by obtain ⟨_, o, ho, hn⟩ := hl.mem hb; rw [e5] at ho; cases ho; exact hn vb e6
    refine .inr ⟨b, ob, vb, e0, e1, e2, fun z => ?_, e4, k.1 b ob nb nf e5, e6, e7⟩
    have z' : T = b := by injection z
    rcases n with n | n
    · rw [z'] at n; exact absurd (Nat.lt_of_lt_of_le (Heap.lt_size e5) n) (Nat.lt_irrefl _)
    · exact e3 (by rw [n, z'])
def Lv (d : Bool) (X : Cx) (E : XK) : Prop := ∀ (pins : List (Addr × Obj)) (σ : St) (H' : Hp) (s' : Shared) (a C : Addr), Inv X pins σ H' s' → FlX d X.s₀.heap H' a C s'.heap → E (.ref C) none H' → X.xe (.ref a) s'
theorem Un.old {fs : List Addr} {H0 H : Hp} {h0 h : Heap} {b : Addr} (u : Un fs [] H0 H h0 h) (n : h.objs.size ≤ b) : h0.get? b = none := by
  cases e : h0.get? b with
  | none => rfl
  | some o => obtain ⟨o', e'⟩ := u.there b o e (by simp); exact absurd (Nat.lt_of_lt_of_le (Heap.lt_size e') n) (Nat.lt_irrefl _)
theorem lv_of {d : Bool} {P : Program} {w : World} {K : PySem.W.Frag} {mg : Str → Option Value} {base : Heap} {N : List Str} {qual : Str} {scope : Scope} {f : Addr} {cd : Value} {A : Around} {outer : List Env} {s : Shared} {H : Hp} {E : XK} :
    Lv d (cxOf (CXE d P w) P w K mg base N qual scope f cd A outer s H E) E := by
  intro pins σ H' s' a C I F q
  obtain ⟨n0, t1, c2, sh, nf, hT, hx⟩ := F
  show wpAny (model P w) (A.deeper (envOfC qual scope s.heap.objs.size f cd)) (leaving (envOfC qual scope s.heap.objs.size f cd) (.ref a)) (fun _ s'' => CXE d P w outer H s E (.ref a) s'') _ s'
  unfold leaving
  refine wpAny_bind (leaveX (base := base) (outer := outer) (ch := chX a t1) I.ok.frames I.stack rfl sh nf (by simp [chX]) (fun T e => by rw [e]; exact chX_ref) fun h' T zT neT sh' tb' kp => ?_)
  have nT : New s.heap H' T := by
    rcases zT with z | z
    · exact ⟨I.base.old z, I.hok.fresh z⟩
    · exact hT T z
  have frs' : ∀ b ∈ frs (envOfC qual scope s.heap.objs.size f cd :: outer), H' b = none := fun b hb => I.stkFree b hb
  refine ⟨a, C, H', rfl, I.os, I.bare, Un.leftX I.base kp (chX_all n0.1 fun T e => (hT T e).1) fun b o e hb => ?_, I.hok.leftX kp (chX_all n0.2 fun T e => (hT T e).2) frs', ⟨n0, .ref T, c2, sh', .inr ⟨T, _, rfl, neT, tb'⟩, fun T' e => ?_, hx.step kp I.stack zT⟩, q⟩
  · rcases List.mem_cons.mp (I.stkSub b hb) with z | z
    · exfalso
      have e' : s.heap.get? b = some o := e
      have : b = s.heap.objs.size := z
      rw [this] at e'
      exact absurd (Heap.lt_size e') (Nat.lt_irrefl _)
    · exact z
  · cases e
    exact nT
theorem Lv.pass {d : Bool} {X : Cx} {E : XK} (L : Lv d X E) (hx : X.ex = []) : Passes (CXE d X.prog X.w) X E := by
  intro pins σ H s e s' I h
  obtain ⟨a, C, H', rfl, os, bare, un, hok, fl, q⟩ := h
  have I' : Inv X pins σ H' s' := I.call' os un hok bare (fun b z => absurd z (by simp))
  have old : ∀ b, s.heap.get? b = none → X.s₀.heap.get? b = none := fun b e => by
    cases z : X.s₀.heap.get? b with
    | none => rfl
    | some o => obtain ⟨o', z'⟩ := I.base.there b o z (by rw [hx]; simp); rw [e] at z'; cases z'
  exact L pins σ H' s' a C I' (fl.new fun b n => ⟨old b n.1, n.2⟩) q
theorem Fun.okE {d : Bool} {P : Program} {w : World} {K : PySem.W.Frag} {mg : Str → Option Value} {base : Heap} {x qual : Str} {st : Stmt} {f : Addr} {fd : FuncData} {N ps : List Str} {k : Nat} {sp : Sp} (F : Fun K x qual st f fd) (S : FnScope N ps (defScope st)) (len : ∀ vs H Q E, sp vs H Q E → vs.length = ps.length)
    (hbody : ∀ (cdv : Value) (A : Around) (outer : List Env) (s : Shared) (H : Hp) (vs : List V) (Q : VK) (E : XK), Room k (A.deeper (envOfC qual (defScope st) s.heap.objs.size f cdv)) → sp vs H Q E → Lv d (cxOf (CXE d P w) P w K mg base N qual (defScope st) f cdv A outer s H E) E → Passes (CXE d P w) (cxOf (CXE d P w) P w K mg base N qual (defScope st) f cdv A outer s H E) E →
      ∃ t, PSs (cxOf (CXE d P w) P w K mg base N qual (defScope st) f cdv A outer s H E) (defBody st) t ∧ t { nx := fun _ H' => Q .non H', rt := Q } (start N vs) H) : FnOk P w K mg base (CXE d P w) (k + 1) f fd ps sp := by
  obtain ⟨oc, od, kV, doc, pm, an, cdv, ct, osl, rfl, lk, hcd⟩ := F.ex
  exact fn_of lk hcd S len fun A outer s H vs Q E hr hsp => hbody cdv A outer s H vs Q E hr hsp lv_of (lv_of.pass rfl)
end L2
end
section
namespace L2
open PySem PySem.Spec PyProof.Rows
abbrev vMro : List Value := [.type "ValueError", .type "Exception", .type "BaseException", .type "object"]
theorem exc_obj {K : PySem.W.Frag} {h : Heap} {C : Addr} (X : K.In h) (q : PySem.W.excIn K C vMro "ValueError.__new__" = true) :
    ∃ tl N nm qn bs hdct sn sub ab col dd k0 k1 k2 k3 k5 mN, h.get? C = some (excClassObj nm qn C N bs tl hdct sn sub ab col dd k0 k1 k2 k3 k5 "ValueError.__new__") ∧ h.Ns N mN ∧ mN "__init__" = none ∧ OwnTail h vMro tl := by
  unfold PySem.W.excIn at q
  split at q
  · rename_i dd cd sl ho
    split at q
    · rename_i C' bm k0 k1 k2 k3 n k5 hm hs
      simp only [Bool.and_eq_true, beq_iff_eq, Bool.not_eq_true'] at q
      obtain ⟨⟨⟨⟨⟨rfl, rfl⟩, hdel⟩, ht⟩, hok⟩, hni⟩ := q
      obtain ⟨nm, bs, mro, ns, qn, hd, sn, sub, ab, col, del⟩ := cd
      dsimp only at hm hdel hok hni; subst hm hdel
      have hsl : sl = #[k0, k1, k2, k3, some (.builtin "ValueError.__new__"), k5] := by obtain ⟨l⟩ := sl; simp only at hs; rw [hs]
      subst hsl
      exact ⟨bm, ns, nm, qn, bs, hd, sn, sub, ab, col, dd, k0, k1, k2, k3, k5, _, X _ _ ho, .of_isNs (PySem.W.isNs_of_in X hok), PySem.W.nsMap_none_of_in X hok hni, PySem.W.tail_of_in X ht⟩
    · cases q
  · cases q
section
variable {X : Cx}
def tRaise (E : XK) (C : Addr) : TS := fun _ _ H => E (.ref C) none H
theorem ps_raise {d : Bool} {E : XK} {x z : Str} {C : Addr} {np cpos pos kp : Pos} {kj : Nat} (L : Lv d X E) (hc : X.calm = true) (hxe : X.ex = []) (hg : Gl X x) (hm : X.mg x = some (.ref C)) (hx : PySem.W.excIn X.K C vMro "ValueError.__new__" = true)
    (hd : (x == ("__debug__" : Str)) = false := by decide) (he : starEach [.Constant (.str z) kj kp] X.env = (false, eval (.Constant (.str z) kj kp) X.env) :: starEach [] X.env := by rfl) :
    PS X (.Raise (some (.Call (.Name x np) [.Constant (.str z) kj kp] [] cpos)) none pos) (tRaise E C) := by
  intro pins s σ H D I h
  obtain ⟨tl, N, nm, qn, bs, hdct, sn, sub, ab, col, dd, k0, k1, k2, k3, k5, mN, hC, hN, hni, T⟩ := exc_obj I.kIn hx
  refine wpAny_Raise_call_subU (C := C) (nm := nm) (q := qn) (N := N) (bs := bs) (bm := tl) (hdct := hdct) (sn := sn) (sub := sub) (ab := ab) (col := col) (dd := dd) (k0 := k0) (k1 := k1) (k2 := k2) (k3 := k3) (k5 := k5) (mN := mN)
    F.excBase_ValueError (by decide +kernel) F.excBase_ValueError (T.hasType F.excBase_ValueError.hasBase) (I.ok.hd hc) (by rw [he]; rfl) hni (ld_glob I hg hm ⟨rfl, ?_⟩ hd)
  rw [he]
  show wpAny _ _ (evalArgs (.ref C) true ((false, eval (.Constant (.str z) kj kp) X.env) :: backTo cpos (starEach [] X.env)) []) _ _ _
  have e0 : backTo cpos (starEach [] X.env) = [] := by rfl
  rw [e0]
  refine Calls.evalArgs_plain (Calls.spliced_cons (Calls.Constant_str (Calls.spliced_nil ⟨rfl, (by show 1 ≤ sizeLine; decide), hC, hN, T, fun h' e hm => ?_⟩)))
  obtain ⟨t, ht, _, _⟩ := hm.there
  have old : ∀ b, s.heap.get? b = none → X.s₀.heap.get? b = none := fun b e => by
    cases z : X.s₀.heap.get? b with
    | none => rfl
    | some o => obtain ⟨o', z'⟩ := I.base.there b o z (by rw [hxe]; simp); rw [e] at z'; cases z'
  exact L pins σ H _ e C (I.kept (t' := s.toks + 1) hm.keeps) ⟨⟨old e hm.new, I.hok.none_of hm.new⟩, .none, .none, ⟨_, _, ht, rfl, rfl, rfl, rfl, rfl⟩, .inl rfl, (fun T q => nomatch q), .inl rfl⟩ h
abbrev hX (X : Cx) (a : Addr) (oe : Obj) (px : List (Addr × Obj)) : Cx := { X with A := X.A.mark (some (.ref a)), calm := false, pn := (a, oe) :: (px ++ X.pn), xe := fun _ _ => False }
abbrev tX (X : Cx) (pn : List (Addr × Obj)) (E : Value → Shared → Prop) : Cx := { X with pn := pn, xe := E }
theorem Cx.Ok.hX {X : Cx} (ok : X.Ok) (a : Addr) (oe : Obj) (px : List (Addr × Obj)) : (hX X a oe px).Ok :=
  ⟨ok.mod, ok.kind, ok.glob, ok.blt, ok.above, ok.inj, ok.has, ok.cab, (fun z => nomatch z), ok.frames, ok.stk, ok.exf, ok.bs, ok.bsz, ok.noex, ok.exfs, ok.funs, ok.frf⟩
theorem Cx.Ok.tX {X : Cx} (ok : X.Ok) (pn : List (Addr × Obj)) (E : Value → Shared → Prop) : (tX X pn E).Ok :=
  ⟨ok.mod, ok.kind, ok.glob, ok.blt, ok.above, ok.inj, ok.has, ok.cab, ok.hd, ok.frames, ok.stk, ok.exf, ok.bs, ok.bsz, ok.noex, ok.exfs, ok.funs, ok.frf⟩
def HCtx (px : List (Addr × Obj)) (a : Addr) (c2 : Value) : Prop := c2 = .none ∨ ∃ b ob vb, c2 = .ref b ∧ b ≠ a ∧ (b, ob) ∈ px ∧ ob.data = .fields vb ∧ vb[2]? = some .none
structure Held (px : List (Addr × Obj)) (a : Addr) (oe : Obj) (C : Addr) : Prop where
  cls : oe.cls = .ref C
  dict : oe.dict = none
  fld : ∃ vs c2, oe.data = .fields vs ∧ vs[2]? = some c2 ∧ HCtx px a c2
end
end L2
end
section
namespace L2
open PySem PySem.Spec PyProof.Rows
section
variable {X : Cx} {pins : List (Addr × Obj)} {σ : St} {H : Hp} {s : Shared}
def Pinned (X : Cx) (H : Hp) (h : Heap) (p : Addr × Obj) : Prop := h.get? p.1 = some p.2 ∧ H p.1 = none ∧ p.1 ≠ X.env.locals ∧ p.1 ∉ X.fs ∧ ∀ v, p.2.data ≠ .cell v
theorem Inv.hold (I : Inv X pins σ H s) {a : Addr} {oe : Obj} {px : List (Addr × Obj)} (k : ∀ p ∈ (a, oe) :: px, Pinned X H s.heap p) : Inv (hX X a oe px) pins σ H s :=
  ⟨I.ok.hX a oe px, I.os, I.bare, I.base, I.loc, I.cell, I.free, I.freeC, fun p hp => by
    have hp' : p ∈ ((a, oe) :: (px ++ X.pn)) ++ pins := hp
    simp only [List.mem_append, List.mem_cons] at hp'
    rcases hp' with (z | z | z) | z
    · exact k p (by rw [z]; exact List.mem_cons_self)
    · exact k p (List.mem_cons_of_mem _ z)
    · exact I.pin p (List.mem_append_left _ z)
    · exact I.pin p (List.mem_append_right _ z), I.hok, I.len⟩
theorem Inv.loose {a : Addr} {oe : Obj} {px : List (Addr × Obj)} (I : Inv (hX X a oe px) pins σ H s) (ok : X.Ok) : Inv X pins σ H s := ⟨ok, I.os, I.bare, I.base, I.loc, I.cell, I.free, I.freeC, fun p hp => I.pin p (by
    have : p ∈ X.pn ∨ p ∈ pins := List.mem_append.mp hp
    show p ∈ ((a, oe) :: (px ++ X.pn)) ++ pins
    simp only [List.mem_append, List.mem_cons]
    rcases this with z | z
    · exact .inl (.inr (.inr z))
    · exact .inr z), I.hok, I.len⟩
theorem Inv.blank (I : Inv X pins σ H s) : Inv X pins (List.replicate X.N.length none) H s := I.weak (by simp [I.len]) fun i v e => by rw [List.getElem?_replicate] at e; split at e <;> cases e
theorem catchX {d : Bool} {x : Str} {B : Addr} {nm : Option Str} {b0 : Stmt} {suite : List Stmt} {np hp : Pos} {σ1 : St} {H0 : Hp} {s1 s' : Shared} {F : XK} {e : Value} {Q : Flow → Shared → Prop} (hst : X.stack = X.env :: X.outer) (hfr : X.env.frame = some X.env.locals) (hg : Gl X x) (hm : X.mg x = some (.ref B)) (hdb : (x == ("__debug__" : Str)) = false)
    (I1 : Inv X pins σ1 H0 s1) (q : CXE d X.prog X.w X.stack H0 s1 F e s') (hF : ∀ C H1, F (.ref C) none H1 → PySem.W.exmOne X.K (.ref C) (.ref B) = some true)
    (k : ∀ a C H1 h3 T oe px c2, e = .ref a → T ≠ a → ExcSh h3 a (.ref C) (.ref T) c2 → TbSh h3 T .none → New s1.heap H1 a → New s1.heap H1 T → h3.get? a = some oe → (d = false → c2 = .none) → Held px a oe C → F (.ref C) none H1 →
      (∀ h4, (∀ o, h3.get? a = some o → h4.get? a = some o) → KeepX (frs X.stack) [T] h3 h4 → Inv X pins σ1 H1 { s' with heap := h4 } ∧ ∀ p ∈ (a, oe) :: px, Pinned X H1 h4 p) →
      codeAny (model X.prog X.w) (X.A.mark (some (.ref a))) (.handlers (.ref a) [.ExceptHandler none nm (b0 :: suite) hp] X.env) (fun r s₂ => match r with
          | .ok f => (match nm with
            | none => Q f s₂
            | some n => wpAny (model X.prog X.w) X.A (do bindName X.env n .none; unbindBehindTheSuite X.env n hp) (fun _ s₃ => Q f s₃) X.xe s₂)
          | .error x => cameBackBy (model X.prog X.w) X.A X.env X.xe x s₂) { s' with heap := h3 }) :
    wpAny (model X.prog X.w) X.A (noteFrame e X.env) (fun _ s2 => wpAny (model X.prog X.w) X.A (setFlight e none) (fun _ s3 => wpAny (model X.prog X.w) X.A (handleBy e X.env [.ExceptHandler (some (.Name x np)) nm (b0 :: suite) hp]) Q X.xe s3) X.xe s2) X.xe s' := by
  obtain ⟨a, C, H1, rfl, os, bare, un, hok, ⟨⟨n0, nH⟩, t1, c2, sh, nf, hT, hx⟩, qF⟩ := q
  have hex := hF C H1 qF
  have I2 : Inv X pins σ1 H1 s' := I1.call' os un hok bare (fun b z => absurd z (by simp))
  have hf2 : X.A.frames = some (X.env :: X.outer) := by rw [← hst]; exact I1.ok.frames
  have st2 : s'.heap.FunFrames X.base (X.env :: X.outer) := by rw [← hst]; exact I2.stack
  refine leaveX (ch := chX a t1) hf2 st2 hfr sh nf (by simp [chX]) (fun T e => by rw [e]; exact chX_ref) fun h3 T zT neT sh3 tb3 kp3 => ?_
  have hx3 := hx.step kp3 st2 zT
  rw [← hst] at kp3
  have u3 : Un (frs X.stack) [] H0 H1 s1.heap h3 := Un.leftX un kp3 (chX_all n0 fun T e => (hT T e).1) fun b o _ hb => hb
  have ok3 : HOk X.prog X.w H1 h3 := hok.leftX kp3 (chX_all nH fun T e => (hT T e).2) I2.stkFree
  have nT : New s1.heap H1 T := by
    rcases zT with z | z
    · exact ⟨un.old z, I2.hok.fresh z⟩
    · exact hT T z
  have inv : ∀ h4, KeepX (frs X.stack) [T] h3 h4 → Inv X pins σ1 H1 { s' with heap := h4 } := fun h4 kp4 =>
    I1.call' (s' := { s' with heap := h4 }) os (Un.leftX u3 kp4 (fun b hb => by simp at hb; rw [hb]; exact nT.1) fun b o _ hb => hb) (ok3.leftX kp4 (fun b hb => by simp at hb; rw [hb]; exact nT.2) I2.stkFree) bare (fun b z => absurd z (by simp))
  have away1 : ∀ b, s1.heap.get? b = none → b ≠ X.env.locals := fun b nb z => by
    obtain ⟨m, ⟨o, _, _, e, _⟩, _⟩ := I1.loc
    rw [← z, nb] at e
    cases e
  have away2 : ∀ b, s1.heap.get? b = none → b ∉ X.fs := fun b nb z => by
    obtain ⟨_, o, e, _⟩ := I1.stack.mem (show b ∈ X.stack.filterMap (·.frame) by rw [hst, List.filterMap_cons, hfr]; exact List.mem_cons_of_mem _ z)
    rw [nb] at e
    cases e
  have away : ∀ b, s1.heap.get? b = none → b ≠ X.env.locals ∧ b ∉ X.fs := fun b nb => ⟨away1 b nb, away2 b nb⟩
  obtain ⟨oe, vs, h0, hc, hdc, hdt, v1, v2⟩ := id sh3
  have ex : ∃ px, HCtx px a c2 ∧ ∀ h4, (∀ o, h3.get? a = some o → h4.get? a = some o) → KeepX (frs X.stack) [T] h3 h4 → ∀ p ∈ (a, oe) :: px, Pinned X H1 h4 p := by
    have pa : ∀ h4, (∀ o, h3.get? a = some o → h4.get? a = some o) → Pinned X H1 h4 (a, oe) := fun h4 k4 => ⟨k4 _ h0, nH, (away a n0).1, (away a n0).2, fun v z => by rw [show (a, oe).2.data = .fields vs from hdt] at z; cases z⟩
    rcases hx3 with z | ⟨b, ob, vb, e0, e1, e2, e3, e4, e5, e6, e7⟩
    · exact ⟨[], .inl z, fun h4 k4 _ p hp => by simp at hp; rw [hp]; exact pa h4 k4⟩
    · refine ⟨[(b, ob)], .inr ⟨b, ob, vb, e1, e2, by simp, e6, e7⟩, fun h4 k4 kp4 p hp => ?_⟩
      rcases List.mem_cons.mp hp with z | z
      · rw [z]; exact pa h4 k4
      · simp at z; rw [z]
        have nbT : b ∉ [T] := fun hb => by simp at hb; exact e3 (by rw [hb])
        have nbf : b ∉ frs X.stack := fun hb => by
          obtain ⟨_, o, e, _⟩ := I1.stack.mem hb
          rw [e4.1] at e; cases e
        exact ⟨kp4.1 b ob nbT nbf e5, e4.2, (away b e4.1).1, (away b e4.1).2, fun v z => by rw [show (b, ob).2.data = .fields vb from e6] at z; cases z⟩
  obtain ⟨px, hctx, hpin⟩ := ex
  have id3 : KeepX (frs X.stack) [T] h3 h3 := ⟨fun _ _ _ _ q => q, fun _ o _ _ q => ⟨o.slots, q⟩⟩
  have I3 := inv h3 id3
  have I3h : Inv (hX X a oe px) pins σ1 H1 { s' with heap := h3 } := I3.hold (hpin h3 (fun _ q => q) id3)
  refine wpAny_handleBy_cons (codeAny_handlers_test (ld_glob (X := hX X a oe px) I3h hg hm ?_ hdb)) (by intro q; cases q)
  have IA : PySem.W.InstAt h3 a oe C none := ⟨h0, hc, by unfold PySem.W.notCls; rw [hdt], by rw [hdc]; trivial⟩
  refine (PySem.W.exm_one (M := model X.prog X.w) I3.kIn IA.type hex).here ?_
  exact k a C H1 h3 T oe px c2 rfl neT sh3 tb3 ⟨n0, nH⟩ nT h0 (fun hd => by
    rcases hx with z | ⟨_, _, _, e0, _⟩
    · exact z
    · rw [hd] at e0; cases e0) ⟨hc, hdc, vs, c2, hdt, v2, hctx⟩ qF fun h4 k4 kp4 => ⟨inv h4 kp4, hpin h4 k4 kp4⟩
theorem tried {d : Bool} {body : List Stmt} {tb : XK → TS} {F : XK} {D : Ends} {Q : Flow → Shared → Prop} {EE : Value → Shared → Prop} (I : Inv X pins σ H s)
    (hb : ∀ (pn : List (Addr × Obj)) (E : Value → Shared → Prop), Passes (CXE d X.prog X.w) (tX X pn E) F → PSs (tX X pn E) body (tb F)) (h : tb F D σ H) (hQ : ∀ f s1, SP X pins D f s1 → Q f s1)
    (hE : ∀ e s', (∃ σ1 H0 s1, Inv X pins σ1 H0 s1 ∧ CXE d X.prog X.w X.stack H0 s1 F e s') → EE e s') : wpAny (model X.prog X.w) X.A (execs body X.env) Q EE s := by
  have pass : Passes (CXE d X.prog X.w) (tX X (X.pn ++ pins) fun e s' => ∃ σ1 H0 s1, Inv X pins σ1 H0 s1 ∧ CXE d X.prog X.w X.stack H0 s1 F e s') F := fun pins' σ1 H1 s1 e s' I1 q =>
    ⟨σ1, H1, s1, ⟨I.ok, I1.os, I1.bare, I1.base, I1.loc, I1.cell, I1.free, I1.freeC, fun p hp => I1.pin p (List.mem_append_left _ hp), I1.hok, I1.len⟩, q⟩
  have I0 : Inv (tX X (X.pn ++ pins) fun e s' => ∃ σ1 H0 s1, Inv X pins σ1 H0 s1 ∧ CXE d X.prog X.w X.stack H0 s1 F e s') [] σ H s := ⟨I.ok.tX _ _, I.os, I.bare, I.base, I.loc, I.cell, I.free, I.freeC, fun p hp => I.pin p (by simpa using hp), I.hok, I.len⟩
  have back : ∀ {σ' H' s'}, Inv (tX X (X.pn ++ pins) fun e s' => ∃ σ1 H0 s1, Inv X pins σ1 H0 s1 ∧ CXE d X.prog X.w X.stack H0 s1 F e s') [] σ' H' s' → Inv X pins σ' H' s' := fun {σ' H' s'} J => ⟨I.ok, J.os, J.bare, J.base, J.loc, J.cell, J.free, J.freeC, fun p hp => J.pin p (by simpa using hp), J.hok, J.len⟩
  refine wpAny_mono (hb _ _ pass [] s σ H D I0 h) (fun f s1 q => hQ f s1 ?_) hE
  cases f with
  | next => obtain ⟨σ', H', J, q⟩ := q; exact ⟨σ', H', back J, q⟩
  | brk => obtain ⟨σ', H', J, q⟩ := q; exact ⟨σ', H', back J, q⟩
  | cont => obtain ⟨σ', H', J, q⟩ := q; exact ⟨σ', H', back J, q⟩
  | ret u => obtain ⟨v, σ', H', J, r, q⟩ := q; exact ⟨v, σ', H', back J, r, q⟩
end
end L2
end
section
namespace PySem
open Sem (wp)
section
variable {prog : Program} {w : World} {A : Around} {E : Value → Shared → Prop} {s : Shared}
end
end PySem
namespace L2
open PySem PySem.Spec PyProof.Rows
section
variable {X : Cx}
end
end L2
end
section
namespace L2
open PySem PySem.Spec PyProof.Rows
theorem Same.put' {H H' : Hp} {p : PySem.Addr} {o : HO} (h : Same H H') (hp : H p = none) : Same H (L2.upd H' p o) := fun b u e => by rw [upd_ne (ne_of_none e hp)]; exact h b u e
theorem comp_gen {J : It} {g : TG} {te : TE} {H1 : Hp} {σ0 : St} {R : Hp → Prop} {p : Addr} (hp : H1 p = none) (n : Nat) (hz : n < sizeLine) (F : Nat → V) (Ps : St → Prop) (h0 : Ps σ0) (hstop : ∀ H', Same H1 H' → J.stop n H') (hgo : ∀ i H', i < n → Same H1 H' → J.go i H')
    (step : ∀ i σ' H' x H2, i < n → Ps σ' → Same H1 H' → J.yld i H' x H2 → ∀ K : V → St → Hp → Prop, (∀ σ2 H4, Ps σ2 → Same H' H4 → K (F i) σ2 H4) → g x σ' H2 fun σ2 H3 => te σ2 H3 fun v H4 => K v σ2 H4)
    (fin : ∀ H', Same H1 H' → H' p = some (.lst ((List.range n).map F)) → R H') :
    ∃ W : Nat → Nat → St → Hp → Prop, (∃ m, W 0 m σ0 (upd H1 p (.lst []))) ∧
      ∀ i m σ' H', W i m σ' H' → (J.stop i H' ∧ R H') ∨ (J.go i H' ∧ ∀ x H2, J.yld i H' x H2 → g x σ' H2 fun σ2 H3 => te σ2 H3 fun v H4 => ∃ ys, H4 p = some (.lst ys) ∧ ys.length < sizeLine ∧ ∃ m', m' < m ∧ W (i + 1) m' σ2 (upd H4 p (.lst (ys ++ [v])))) := by
  refine ⟨fun i m σ' H' => m = n - i ∧ i ≤ n ∧ Ps σ' ∧ Same H1 H' ∧ H' p = some (.lst ((List.range i).map F)), ⟨_, rfl, Nat.zero_le _, h0, (Same.refl H1).put' hp, upd_same⟩, ?_⟩
  rintro i m σ' H' ⟨rfl, hi, ps, sm, lp⟩
  by_cases hlt : i < n
  · refine .inr ⟨hgo i H' hlt sm, fun x H2 y => step i σ' H' x H2 hlt ps sm y _ fun σ2 H4 ps2 sm2 => ?_⟩
    refine ⟨_, sm2 _ _ lp, by simp; omega, n - (i + 1), by omega, rfl, hlt, ps2, (sm.trans sm2).put' hp, ?_⟩
    rw [upd_same, List.range_succ, List.map_append]; rfl
  · have e : i = n := by omega
    subst e
    exact .inl ⟨hstop H' sm, fin H' sm lp⟩
theorem comp_list {KK : PySem.W.Frag} {a : Addr} {xs : List V} {g : TG} {te : TE} {H1 : Hp} {σ0 : St} {R : Hp → Prop} {p : Addr} (hp : H1 p = none) (ha : H1 a = some (.lst xs)) (hz : xs.length < sizeLine) (F : V → V) (Ps : St → Prop) (h0 : Ps σ0)
    (step : ∀ (i : Nat) x σ' H', xs[i]? = some x → Ps σ' → Same H1 H' → ∀ K : V → St → Hp → Prop, (∀ σ2 H4, Ps σ2 → Same H' H4 → K (F x) σ2 H4) → g x σ' H' fun σ2 H3 => te σ2 H3 fun v H4 => K v σ2 H4)
    (fin : ∀ H', Same H1 H' → H' p = some (.lst (xs.map F)) → R H') :
    ∃ W : Nat → Nat → St → Hp → Prop, (∃ m, W 0 m σ0 (upd H1 p (.lst []))) ∧
      ∀ i m σ' H', W i m σ' H' → ((Itl KK a).stop i H' ∧ R H') ∨ ((Itl KK a).go i H' ∧ ∀ v H2, (Itl KK a).yld i H' v H2 → g v σ' H2 fun σ2 H3 => te σ2 H3 fun v H4 => ∃ ys, H4 p = some (.lst ys) ∧ ys.length < sizeLine ∧ ∃ m', m' < m ∧ W (i + 1) m' σ2 (upd H4 p (.lst (ys ++ [v])))) := by
  refine comp_gen (J := Itl KK a) hp xs.length hz (fun i => F (xs.getD i .non)) Ps h0 (fun H' sm => ⟨xs, SqL.of (sm _ _ ha), Nat.le_refl _⟩) (fun i H' hi sm => ⟨xs, xs[i], SqL.of (sm _ _ ha), by simp [hi]⟩) (fun i σ' H' v H2 hi ps sm y K k => ?_) (fun H' sm hq => fin H' sm ?_)
  · obtain ⟨e, y⟩ := y
    subst e
    have hv := y xs (SqL.of (sm _ _ ha))
    refine step i v σ' _ hv ps sm K fun σ2 H4 p2 s2 => ?_
    have := k σ2 H4 p2 s2
    rw [show xs.getD i V.non = v by simp [List.getD, hv]] at this
    exact this
  · rw [hq]
    congr 2
    refine List.ext_getElem (by simp) fun i h1 h2 => ?_
    simp at h1 h2
    simp [List.getD, h2]
theorem comp_range {lo : Int} {n : Nat} {g : TG} {te : TE} {H1 : Hp} {σ0 : St} {R : Hp → Prop} {p : Addr} (hp : H1 p = none) (hz : n < sizeLine) (F : Nat → V) (Ps : St → Prop) (h0 : Ps σ0)
    (step : ∀ i σ' H', i < n → Ps σ' → Same H1 H' → ∀ K : V → St → Hp → Prop, (∀ σ2 H4, Ps σ2 → Same H' H4 → K (F i) σ2 H4) → g (.int (lo + i)) σ' H' fun σ2 H3 => te σ2 H3 fun v H4 => K v σ2 H4)
    (fin : ∀ H', Same H1 H' → H' p = some (.lst ((List.range n).map F)) → R H') :
    ∃ W : Nat → Nat → St → Hp → Prop, (∃ m, W 0 m σ0 (upd H1 p (.lst []))) ∧
      ∀ i m σ' H', W i m σ' H' → ((Itr lo n).stop i H' ∧ R H') ∨ ((Itr lo n).go i H' ∧ ∀ v H2, (Itr lo n).yld i H' v H2 → g v σ' H2 fun σ2 H3 => te σ2 H3 fun v H4 => ∃ ys, H4 p = some (.lst ys) ∧ ys.length < sizeLine ∧ ∃ m', m' < m ∧ W (i + 1) m' σ2 (upd H4 p (.lst (ys ++ [v])))) := by
  refine comp_gen (J := Itr lo n) hp n hz F Ps h0 (fun _ _ => Nat.le_refl _) (fun i _ hi _ => hi) (fun i σ' H' v H2 hi ps sm y K k => ?_) fin
  obtain ⟨e, y⟩ := y
  subst e y
  exact step i σ' _ hi ps sm K k
end L2
end
section
namespace L2
open PySem PySem.Spec PyProof.Rows
section
variable {X : Cx} {K : PySem.W.Frag} {pos : Pos}
theorem pg_tupK {es : List Expr} {k : Nat} {t : TGs} {n : Nat} (hK : X.K = K) (hc : X.calm = true) (h : PGs X es t) (hn : (assignEach es X.env).length = n := by rfl) (hst : (assignEach es X.env).findIdx? (·.1) = none := by rfl) : PG X (.Tuple es k pos) (gTup K n t) := hK ▸ pg_tup hc h hn hst
theorem ix_listK (hK : X.K = K) : IxR X (rIxL K) := hK ▸ ix_list
theorem op_in_seqK (hK : X.K = K) : OpR X (compareOp .In) (rIn K false) := hK ▸ op_in_seq
end
end L2
end
section
namespace L2
open PySem PySem.Spec PyProof.Rows
section
variable {X : Cx}
def tVs (vs : List V) : TA := fun _ H Q => Q vs H
def conV : Expr → Option V
  | .Constant (.int i) _ _ => some (.int i)
  | .Constant (.str x) _ _ => some (.str x)
  | .Constant (.bool b) _ _ => some (.bl b)
  | .Constant .none _ _ => some .non
  | _ => none
theorem pa_vs : ∀ (vs : List V) {es : List Expr}, es.map conV = vs.map some → PA X es (tVs vs)
  | [], [], _ => fun pos pins s σ H Q I h => pa_nil pos pins s σ H Q I h
  | [], e :: es, h => by simp at h
  | v :: vs, [], h => by simp at h
  | v :: vs, e :: es, h => by
    simp only [List.map_cons, List.cons.injEq] at h
    obtain ⟨h1, h2⟩ := h
    have ih := pa_vs vs h2
    intro pos pins s σ H Q I hq
    have step : ∀ {te : TE}, PE X e te → (∀ σ H Q, te σ H Q ↔ Q v H) → starEach (e :: es) X.env = (false, eval e X.env) :: starEach es X.env → wpAny (model X.prog X.w) X.A (spliced (backTo pos (starEach (e :: es) X.env))) (AP X pins σ Q) X.xe s := by
      intro te he ht hs
      exact pa_cons he ih hs pos pins s σ H Q I ((ht σ H _).mpr hq)
    cases e <;> simp only [conV, reduceCtorEq] at h1
    rename_i c k p
    cases c <;> simp only [conV, Option.some.injEq, reduceCtorEq] at h1
    all_goals subst h1
    · exact step pe_non (fun _ _ _ => Iff.rfl) rfl
    · exact step pe_bl (fun _ _ _ => Iff.rfl) rfl
    · exact step pe_int (fun _ _ _ => Iff.rfl) rfl
    · exact step pe_str (fun _ _ _ => Iff.rfl) rfl
end
end L2
end
section
namespace L2
open PySem PySem.Spec PyProof.Rows
section
variable {X : Cx} {K : PySem.W.Frag} {pos : Pos}
end
end L2
end
section
namespace L2
open PySem PySem.Spec PyProof.Rows
def tCompIf (wi : TI) (g : TG) (tc : TT) (te : TE) (own : Nat) (js : List Nat) : TE := fun σ H Q => wi σ H fun J H1 => ∀ p, H1 p = none → ∃ W : Nat → Nat → St → Hp → Prop, (∃ m, W 0 m (stOf own js σ) (upd H1 p (.lst []))) ∧
  ∀ i m σ' H', W i m σ' H' → (J.stop i H' ∧ Q (.ref p) H') ∨ (J.go i H' ∧ ∀ x H2, J.yld i H' x H2 → g x σ' H2 fun σ2 H3 => tc σ2 H3 fun b H4 => if b = true then te σ2 H4 (fun v H5 => ∃ ys, H5 p = some (.lst ys) ∧ ys.length < sizeLine ∧ ∃ m', m' < m ∧ W (i + 1) m' σ2 (upd H5 p (.lst (ys ++ [v])))) else ∃ m', m' < m ∧ W (i + 1) m' σ2 H4)
theorem codeAny_compLoop_anyIf {prog : Program} {w : World} {A : Around} {s : Shared} {R : Result → Shared → Prop} {elt target iter cd : Expr} {scope : Scope} {pos : Pos} {it acc : Value} {env : Env} (I : Nat → Shared → Prop)
    (turn : ∀ n s, I n s → wpAny (model prog w) A (pyNext it) (fun r s₁ => match r with
      | none => R (.ok .next) s₁
      | some v => wpAny (model prog w) A (letOwnedTupleGo target it v) (fun _ s₁' => wpAny (model prog w) A (assign target env v) (fun _ s₂ => wpAny (model prog w) A (isTrue cd env (eval cd env)) (fun ok s₃ => if ok = true then wpAny (model prog w) A (eval elt env) (fun x s₃ =>
          wpAny (model prog w) A (call (.builtin "list.append") [acc, x]) (fun _ s₄ => ∃ m, m < n ∧ I m s₄) (fun _ _ => False) s₃) (fun _ _ => False) s₃ else ∃ m, m < n ∧ I m s₃)
          (fun _ _ => False) s₂) (fun _ _ => False) s₁') (fun _ _ => False) s₁) (fun _ _ => False) s)
    (n : Nat) (h : I n s) :
    codeAny (model prog w) A (.compLoop (.ListComp elt [⟨target, iter, [cd], 0⟩] scope pos) 0 it acc env) R s := by
  refine codeAny_loop rfl I (fun n s hI => ?_) n h
  show wpAny _ _ ((compTurn (.ListComp elt [⟨target, iter, [cd], 0⟩] scope pos) 0 it acc env).onRaise (fun x => do noteFrame x env; theTreesLotGoes x)) _ _ s
  refine wpAny_noted ?_
  rw [compTurn_list]
  refine wpAny_bind (wpAny_standAt (wpAny_bind (wpAny_mono (turn n s hI) (fun r s₁ h₁ => ?_) fun _ _ h' => h'.elim)))
  cases r with
  | none => exact wpAny_pure h₁
  | some v =>
    refine wpAny_bind (wpAny_mono h₁ (fun _ s₁' h₁' => wpAny_bind (wpAny_mono h₁' (fun _ s₂ h₂ => wpAny_bind (wpAny_tests_one (wpAny_mono h₂ (fun ok s₃ h₃ => ?_) fun _ _ h' => h'.elim))) fun _ _ h' => h'.elim)) fun _ _ h' => h'.elim)
    cases ok with
    | false => exact wpAny_pure ⟨rfl, h₃⟩
    | true => exact wpAny_bind (wpAny_bind (wpAny_mono h₃ (fun x s₄ h₄ => wpAny_bind (wpAny_mono h₄ (fun _ s₅ h₅ => wpAny_pure (wpAny_pure ⟨rfl, h₅⟩)) fun _ _ h' => h'.elim)) fun _ _ h' => h'.elim))
section
variable {X : Cx}
theorem pe_compIf {tg iter elt cd : Expr} {scope : Scope} {pos : Pos} {wi : TI} {g : TG} {tc : TT} {te : TE} (own fr : List Str) (js : List Nat) {sc0 : Scope} {N : List Str} (hc : X.calm = true) (hN : X.N = N) (hsc : X.env.scope = sc0) (S : CompSc N sc0 scope own fr js)
    (hi : PI X tg iter wi) (hg : ∀ s H fp C, PG (compX X scope (own ++ fr) s H fp C) tg g) (hcd : ∀ s H fp C, PT (compX X scope (own ++ fr) s H fp C) cd tc) (he : ∀ s H fp C, PE (compX X scope (own ++ fr) s H fp C) elt te)
    (hs : ∀ x, foldedSetIterable iter X.env x = pure x := by intro _; rfl) : PE X (.ListComp elt [⟨tg, iter, [cd], 0⟩] scope pos) (tCompIf wi g tc te own.length js) := by
  intro pins s σ H Q I h
  rw [eval_ListComp]
  have hclos : closureFor scope X.env = pure (clo X.env scope.names []) := closureFor_clo fun x hx e => by
    subst hsc
    exact I.ok.has x.1 (S.free x hx e)
  refine wpAny_comprehension_free (use := none) rfl hs hclos S.kind S.loc (thn (hi pins s σ H _ I h) fun xv s1 h1 => thn h1 fun itv s2 h2 => ?_)
  obtain ⟨it, fp, tn, J, H2, e, I2, T, st2, f2, rest⟩ := h2
  subst e
  refine wpAny_newObj_type ?_
  obtain ⟨W, ⟨m0, w0⟩, turn⟩ := rest s2.heap.objs.size (I2.hok.fresh (Nat.le_refl _))
  have I3 : Inv X pins σ (upd H2 s2.heap.objs.size (.lst [])) { s2 with heap := s2.heap.push { cls := .type "list", dict := none, data := .seq ([] : List Value).toArray } } :=
    I2.lnew (its := []) (t' := s2.toks) .nil (Nat.zero_le _)
  generalize hs3 : ({ s2 with heap := s2.heap.push { cls := .type "list", dict := none, data := .seq ([] : List Value).toArray } } : Shared) = s3 at I3 ⊢
  have ho3 : ∀ b o, s2.heap.get? b = some o → s3.heap.get? b = some o := fun b o e => by rw [← hs3]; exact Heap.get?_push_of_some _ e
  have f3 : ∀ b ∈ fp, FpOk X pins (upd H2 s2.heap.objs.size (.lst [])) b := fun b hb => by
    obtain ⟨o, e, _⟩ := T.obj _ _ st2 b hb
    exact ⟨by rw [upd_ne (Nat.ne_of_lt (Heap.lt_size e))]; exact (f2 b hb).1, (f2 b hb).2⟩
  have l3 : ∀ b ∈ fp, b < s3.heap.objs.size := fun b hb => by
    obtain ⟨o, e, _⟩ := T.obj _ _ st2 b hb
    exact Heap.lt_size (ho3 b o e)
  have st3 : tn 0 s3.heap := T.keep _ _ _ st2 fun b _ o e => ho3 b o e
  refine wpAny_newFunctionEnv S.cell (by intro y hy; simp at hy) (fun h4 hn4 sb4 => ?_) S.kind
  have ho4 : ∀ b o, s3.heap.get? b = some o → h4.get? b = some o := fun b o e => sb4.extBut b o (Nat.ne_of_lt (Heap.lt_size e)) (Heap.get?_push_of_some _ e)
  have hn4' : h4.Ns s3.heap.objs.size (fun _ => none) := hn4
  have J0 := comp_start (scope := scope) (own := own) (fr := fr) (js := js) (tk := s3.toks + ([] : List (Str × Value)).length) I3 hN hsc S f3 l3 hn4' ho4
  have st4 : tn 0 h4 := T.keep _ _ _ st3 fun b _ o e => ho4 b o e
  show codeAny (model X.prog X.w) X.A (.compStart (.ListComp elt [⟨tg, iter, [cd], 0⟩] scope pos) 0 (.ref it) (.ref s2.heap.objs.size) (compX X scope (own ++ fr) s3 (upd H2 s2.heap.objs.size (.lst [])) fp s3.heap.objs.size).env) (compPost (model X.prog X.w) X.A X.xe none (EP X pins σ Q) (.ref s2.heap.objs.size) s3.heap.objs.size) _
  generalize hX' : compX X scope (own ++ fr) s3 (upd H2 s2.heap.objs.size (.lst [])) fp s3.heap.objs.size = X' at J0 ⊢
  have hgX : PG X' tg g := hX' ▸ hg _ _ _ _
  have heX : PE X' elt te := hX' ▸ he _ _ _ _
  have hcX : PT X' cd tc := hX' ▸ hcd _ _ _ _
  have eP : X'.prog = X.prog := by rw [← hX']; rfl
  have eW : X'.w = X.w := by rw [← hX']; rfl
  have eK : X'.K = X.K := by rw [← hX']; rfl
  have eC : X'.calm = true := by rw [← hX']; exact hc
  have eA : X'.A = X.A := by rw [← hX']; rfl
  have eX : X'.xe = fun _ _ => False := by rw [← hX']; rfl
  have eEx : X'.ex = fp := by rw [← hX']; rfl
  have eL : X'.env.locals = s3.heap.objs.size := by rw [← hX']; rfl
  have eN : X'.N = own ++ fr := by rw [← hX']; rfl
  have cl' : ∀ x c, X'.env.cells.lookup x = some c → X.env.cells.lookup x = some c := fun x c h => clo_from (names := scope.names) (acc := []) (fun y d hy => by simp at hy) (by rw [← hX'] at h; exact h)
  have eFs : X'.fs = frs X.stack := by rw [← hX']; rfl
  have ePn : X'.pn = [] := by rw [← hX']; rfl
  have fp' : ∀ {H' : Hp}, (∀ b ∈ fp, H' b = none) → ∀ b ∈ fp, FpOk X' [] H' b := fun hn b hb => ⟨hn b hb, by rw [eL]; exact Nat.ne_of_lt (l3 b hb), by
      rw [eFs]; intro z
      rcases List.mem_cons.mp (I3.stkSub b z) with e | e
      · exact (f3 b hb).2.1 e
      · exact (f3 b hb).2.2.1 e, .inl (by rw [eEx]; exact hb), fun x c h => (f3 b hb).2.2.2.2.1 x c (cl' x c h), fun p hp => by rw [ePn] at hp; exact absurd (show p ∈ ([] : List (Addr × Obj)) from hp) (by simp)⟩
  have loop : ∀ s4 : Shared, s4 = { s3 with heap := h4, toks := s3.toks + ([] : List (Str × Value)).length } →
      codeAny (model X.prog X.w) X.A (.compLoop (.ListComp elt [⟨tg, iter, [cd], 0⟩] scope pos) 0 (.ref it) (.ref s2.heap.objs.size) X'.env) (compPost (model X.prog X.w) X.A X.xe none (EP X pins σ Q) (.ref s2.heap.objs.size) s3.heap.objs.size) s4 := by
    rintro s4 rfl
    refine codeAny_compLoop_anyIf (fun n s' => ∃ i σ' H', Inv X' [] σ' H' s' ∧ tn i s'.heap ∧ (∀ b ∈ fp, H' b = none) ∧ W i n σ' H') ?_ m0 ⟨0, _, _, J0, st4, fun b hb => (f3 b hb).1, w0⟩
    rintro n s5 ⟨i, σ5, H5, I5, st5, fr5, w5⟩
    rcases turn i n σ5 H5 w5 with ⟨stop, q⟩ | ⟨go, step⟩
    · have hd := T.done X' eP eW eK eC i [] s5 σ5 H5 (fun _ _ => False) I5 (fp' fr5) st5 stop
      rw [eA] at hd
      refine thn hd fun r s6 ⟨hr, I6⟩ => ?_
      subst hr
      obtain ⟨m6, hn6, _⟩ := I6.loc
      rw [eL] at hn6
      refine ⟨m6, hn6, fun h7 sb7 => ?_⟩
      have hC : H5 s3.heap.objs.size = none := by have := I6.free; rw [eL] at this; exact this
      have hok7 : HOk X.prog X.w H5 h7 := fun b ob e => by
        have e6 := I6.hok b ob e
        rw [eP, eW] at e6
        refine e6.stay (fun c w' hc q => (sb7.2 c ?_).trans q) (fun _ q => q) fun _ _ q => q
        rintro rfl
        rcases hc with z | z
        · rw [← z, hC] at e; cases e
        · rw [hC] at z; cases z
      have un : Un (frs X.stack) fp (upd H2 s2.heap.objs.size (.lst [])) H5 s3.heap h7 := by
        have b6 := I6.base
        have e0 : X'.H₀ = upd H2 s2.heap.objs.size (.lst []) := by rw [← hX']; rfl
        have e1 : X'.s₀ = s3 := by rw [← hX']; rfl
        rw [eFs, eEx, e0, e1] at b6
        have ne : ∀ b o, s3.heap.get? b = some o → b ≠ s3.heap.objs.size := fun b o e => Nat.ne_of_lt (Heap.lt_size e)
        exact ⟨fun b o e n hb hx => (sb7.2 b (ne b o e)).trans (b6.keep b o e n hb hx), fun b o e n hb hx => by
            obtain ⟨sl, z⟩ := b6.slot b o e n hb hx
            exact ⟨sl, (sb7.2 b (ne b o e)).trans z⟩, b6.free, fun b o e hx => by
            obtain ⟨o', z⟩ := b6.there b o e hx
            exact ⟨o', (sb7.2 b (ne b o e)).trans z⟩, b6.tups, b6.frzs, b6.tbls⟩
      have os7 : s6.os = s3.os := by have := I6.os; rw [← hX'] at this; exact this
      have I7 : Inv X pins σ H5 { s6 with heap := h7 } := I3.call' (s' := { s6 with heap := h7 }) (ch := fp) os7 un hok7 I6.bare fun b hb => ⟨(f3 b hb).2.2.2.1, (f3 b hb).2.1, (f3 b hb).2.2.2.2.1, (f3 b hb).2.2.2.2.2⟩
      exact ⟨.ref s2.heap.objs.size, H5, I7, rfl, q⟩
    · have hd := T.item X' eP eW eK eC i [] s5 σ5 H5 (fun _ _ => False) I5 (fp' fr5) st5 go
      rw [eA] at hd
      refine thn hd fun r s6 ⟨u, hr, h6⟩ => ?_
      subst hr
      refine thn h6 fun _ s7 ⟨x, H7, I7, r7, y7, st7, fr7⟩ => ?_
      have I7' := I7.pinned (fp' fr7) (T.obj _ _ st7)
      have hg7 := hgX _ s7 σ5 H7 x u _ I7' r7 (step x H7 y7)
      rw [eP, eW, eA, eX] at hg7
      refine thn hg7 fun _ s8 ⟨σ8, H8, I8, q8⟩ => ?_
      have hc8 := hcX _ s8 σ8 H8 _ I8 q8
      rw [eP, eW, eA, eX] at hc8
      have pinK : ∀ (pl : List (Addr × Obj)) (s10 : Shared) (H10 : Hp), Inv X' ([] ++ pl) σ8 H10 s10 → (∀ b ∈ fp, ∀ o, s7.heap.get? b = some o → s10.heap.get? b = some o ∧ H10 b = none) → ∀ m'', m'' < n → W (i + 1) m'' σ8 H10 → ∃ m, m < n ∧ ∃ i σ' H', Inv X' [] σ' H' s10 ∧ tn i s10.heap ∧ (∀ b ∈ fp, H' b = none) ∧ W i m σ' H' := fun pl s10 H10 I10 pin10 m'' hm'' w10 => by
        refine ⟨m'', hm'', i + 1, σ8, H10, I10.unpinned, T.keep _ _ _ st7 fun b hb o e => (pin10 b hb o e).1, fun b hb => ?_, w10⟩
        obtain ⟨o, e, _⟩ := T.obj _ _ st7 b hb
        exact (pin10 b hb o e).2
      refine thn hc8 fun bb s8' ⟨H8', I8', q8'⟩ => ?_
      cases bb with
      | false =>
        obtain ⟨m', hm', w9⟩ := q8'
        have pin10 : ∀ b ∈ fp, ∀ o, s7.heap.get? b = some o → s8'.heap.get? b = some o ∧ H8' b = none := fun b hb o e =>
          let z := I8'.pin (b, o) (List.mem_append_right _ (List.mem_append_right _ (mem_pinsAt hb e)))
          ⟨z.1, z.2.1⟩
        exact pinK _ s8' H8' I8' pin10 m' hm' w9
      | true =>
      have he8 := heX _ s8' σ8 H8' _ I8' q8'
      rw [eP, eW, eA, eX] at he8
      refine thn he8 fun v s9 ⟨z, H9, I9, r9, ys, hp9, hz9, m', hm', w9⟩ => ?_
      have ha := mt_append (X := X') _ s9 σ8 H9 (.ref s2.heap.objs.size) [z] (.ref s2.heap.objs.size) [v] (fun _ H' => ∃ m', m' < n ∧ W (i + 1) m' σ8 H') I9 rfl (.cons r9 .nil) ⟨_, ys, z, rfl, rfl, hp9, hz9, m', hm', w9⟩
      rw [eP, eW, eA, eX] at ha
      refine thn ha fun _ s10 ⟨_, H10, I10, _, m'', hm'', w10⟩ => ?_
      have pin10 : ∀ b ∈ fp, ∀ o, s7.heap.get? b = some o → s10.heap.get? b = some o ∧ H10 b = none := fun b hb o e =>
        let z := I10.pin (b, o) (List.mem_append_right _ (List.mem_append_right _ (mem_pinsAt hb e)))
        ⟨z.1, z.2.1⟩
      exact pinK _ s10 H10 I10 pin10 m'' hm'' w10
  have st4' : tn 0 ({ s3 with heap := h4, toks := s3.toks + ([] : List (Str × Value)).length } : Shared).heap := st4
  exact codeAny_compStart_list (loop _ rfl) (T.self X.A 0 _ _ _ st4' (loop _ rfl))
end
end L2
end
section
namespace L2
open PySem PySem.Spec PyProof.Rows
theorem comp_genIf {J : It} {g : TG} {tc : TT} {te : TE} {H1 : Hp} {σ0 : St} {R : Hp → Prop} {p : Addr} (hp : H1 p = none) (n : Nat) (hz : n < sizeLine) (b : Nat → Bool) (F : Nat → V) (Ps : St → Prop) (h0 : Ps σ0) (hstop : ∀ H', Same H1 H' → J.stop n H') (hgo : ∀ i H', i < n → Same H1 H' → J.go i H')
    (step : ∀ i σ' H' x H2, i < n → Ps σ' → Same H1 H' → J.yld i H' x H2 → ∀ (K1 : V → St → Hp → Prop) (K0 : St → Hp → Prop), (b i = true → ∀ σ2 H4, Ps σ2 → Same H' H4 → K1 (F i) σ2 H4) → (b i = false → ∀ σ2 H4, Ps σ2 → Same H' H4 → K0 σ2 H4) →
      g x σ' H2 fun σ2 H3 => tc σ2 H3 fun bb H4 => if bb = true then te σ2 H4 (fun v H5 => K1 v σ2 H5) else K0 σ2 H4)
    (fin : ∀ H', Same H1 H' → H' p = some (.lst (((List.range n).filter b).map F)) → R H') :
    ∃ W : Nat → Nat → St → Hp → Prop, (∃ m, W 0 m σ0 (upd H1 p (.lst []))) ∧
      ∀ i m σ' H', W i m σ' H' → (J.stop i H' ∧ R H') ∨ (J.go i H' ∧ ∀ x H2, J.yld i H' x H2 → g x σ' H2 fun σ2 H3 => tc σ2 H3 fun bb H4 => if bb = true then te σ2 H4 (fun v H5 => ∃ ys, H5 p = some (.lst ys) ∧ ys.length < sizeLine ∧ ∃ m', m' < m ∧ W (i + 1) m' σ2 (upd H5 p (.lst (ys ++ [v])))) else ∃ m', m' < m ∧ W (i + 1) m' σ2 H4) := by
  refine ⟨fun i m σ' H' => m = n - i ∧ i ≤ n ∧ Ps σ' ∧ Same H1 H' ∧ H' p = some (.lst (((List.range i).filter b).map F)), ⟨_, rfl, Nat.zero_le _, h0, (Same.refl H1).put' hp, upd_same⟩, ?_⟩
  rintro i m σ' H' ⟨rfl, hi, ps, sm, lp⟩
  by_cases hlt : i < n
  · refine .inr ⟨hgo i H' hlt sm, fun x H2 y => step i σ' H' x H2 hlt ps sm y _ _ (fun hb σ2 H4 ps2 sm2 => ?_) fun hb σ2 H4 ps2 sm2 => ?_⟩
    · refine ⟨_, sm2 _ _ lp, ?_, n - (i + 1), by omega, rfl, hlt, ps2, (sm.trans sm2).put' hp, ?_⟩
      · rw [List.length_map]
        have := List.length_filter_le b (List.range i)
        rw [List.length_range] at this
        omega
      · rw [upd_same, List.range_succ, List.filter_append, List.map_append]
        simp [hb]
    · refine ⟨n - (i + 1), by omega, rfl, hlt, ps2, sm.trans sm2, ?_⟩
      rw [sm2 _ _ lp, List.range_succ, List.filter_append]
      simp [hb]
  · have e : i = n := by omega
    subst e
    exact .inl ⟨hstop H' sm, fin H' sm lp⟩
theorem comp_enumIf {x : Str} {g : TG} {tc : TT} {te : TE} {H1 : Hp} {σ0 : St} {R : Hp → Prop} {p : Addr} (hp : H1 p = none) (hz : x.cps.size < sizeLine) (b : Nat → Bool) (F : Nat → V) (Ps : St → Prop) (h0 : Ps σ0)
    (step : ∀ i c t σ' H', x.cps[i]? = some c → H' t = none → Ps σ' → Same H1 H' → ∀ (K1 : V → St → Hp → Prop) (K0 : St → Hp → Prop), (b i = true → ∀ σ2 H4, Ps σ2 → Same H' H4 → K1 (F i) σ2 H4) → (b i = false → ∀ σ2 H4, Ps σ2 → Same H' H4 → K0 σ2 H4) →
      g (.ref t) σ' (upd H' t (.tup [.int i, .str ⟨#[c]⟩])) fun σ2 H3 => tc σ2 H3 fun bb H4 => if bb = true then te σ2 H4 (fun v H5 => K1 v σ2 H5) else K0 σ2 H4)
    (fin : ∀ H', Same H1 H' → H' p = some (.lst (((List.range x.cps.size).filter b).map F)) → R H') :
    ∃ W : Nat → Nat → St → Hp → Prop, (∃ m, W 0 m σ0 (upd H1 p (.lst []))) ∧
      ∀ i m σ' H', W i m σ' H' → ((ItS x).stop i H' ∧ R H') ∨ ((ItS x).go i H' ∧ ∀ v H2, (ItS x).yld i H' v H2 → g v σ' H2 fun σ2 H3 => tc σ2 H3 fun bb H4 => if bb = true then te σ2 H4 (fun v H5 => ∃ ys, H5 p = some (.lst ys) ∧ ys.length < sizeLine ∧ ∃ m', m' < m ∧ W (i + 1) m' σ2 (upd H5 p (.lst (ys ++ [v])))) else ∃ m', m' < m ∧ W (i + 1) m' σ2 H4) := by
  refine comp_genIf (J := ItS x) hp x.cps.size hz b F Ps h0 (fun _ _ => rfl) (fun i _ hi _ => hi) (fun i σ' H' v H2 hi ps sm y K1 K0 k1 k0 => ?_) fin
  obtain ⟨t, c, ht, hc, rfl, rfl⟩ := y
  exact step i c t σ' H' hc ht ps sm K1 K0 k1 k0
end L2
end
section
namespace PySem.StrLaws
open Builtin Builtin.Str
theorem occ_fullX (x y : Str) (hi : Nat) : ∀ (l : List Nat) (st : Array Nat × Nat), st.fst.size = 1 → (forIn l st (occBody x y hi 1)).run.fst = st.fst
  | [], _, _ => rfl
  | a :: l, st, h => by
    rw [List.forIn_cons]
    unfold occBody
    rw [if_neg fun z => by have := z.1.1.1; omega]
    exact occ_fullX x y hi l st h
theorem occ_firstX (x : Str) (c i : Nat) (hi : x.cps.toList[i]? = some c) (hno : ∀ j, j < i → x.cps.toList[j]? ≠ some c) : ∀ (k j : Nat), j ≤ i → j + k = x.length + 1 → (forIn (List.range' j k) ((#[] : Array Nat), 0) (occBody x ⟨#[c]⟩ x.length 1)).run.fst = #[i]
  | 0, j, hj, hk => by
    obtain ⟨hlt, _⟩ := List.getElem?_eq_some_iff.mp hi
    have e : x.length = x.cps.toList.length := by simp [Str.length]
    omega
  | k + 1, j, hj, hk => by
    rw [List.range'_succ, List.forIn_cons]
    unfold occBody
    by_cases e : j = i
    · subst e
      have h := (subAt_one x c j).mpr hi
      rw [if_pos ⟨⟨⟨by simp, Nat.zero_le _⟩, h.1⟩, h.2⟩]
      exact occ_fullX x ⟨#[c]⟩ x.length _ _ (by simp)
    · rw [if_neg fun z => hno j (by omega) ((subAt_one x c j).mp ⟨z.1.2, z.2⟩)]
      exact occ_firstX x c i hi hno k (j + 1) (by omega) (by omega)
end PySem.StrLaws
namespace L2
open PySem PySem.Spec PyProof.Rows
section
variable {X : Cx} {e : Expr} {te : TE} {lo hi stp : Option Expr} {tl th ts : TO} {pos p2 : Pos}
def SlR3 (X : Cx) (r : V → Option Int → Option Int → Option Int → Hp → VK → Prop) : Prop :=
  ∀ (pins : List (Addr × Obj)) (s : Shared) (σ : St) (H : Hp) (x : V) (v vl vu vs : Value) (lo hi st : Option Int) (sl : Addr) (Q : VK), Inv X pins σ H s → RelV x v → s.heap.IsSliceOf sl vl vu vs → IsPart vl lo → IsPart vu hi → IsPart vs st → r x lo hi st H Q →
    ∃ T id, typeLookup (.type T) "__getitem__" = pure (some (.builtin id)) ∧ s.TypeIs v T ∧ wpAny (model X.prog X.w) X.A (getItem v (.ref sl)) (EP X pins σ Q) X.xe s
def tSl3 (r : V → Option Int → Option Int → Option Int → Hp → VK → Prop) (te : TE) (tl th ts : TO) : TE := fun σ H Q => te σ H fun x H1 => tl σ H1 fun l H2 => th σ H2 fun u H3 => ts σ H3 fun st H4 => r x l u st H4 Q
theorem pe_slice3 {se : Expr} {r : V → Option Int → Option Int → Option Int → Hp → VK → Prop} (hr : SlR3 X r) (he : PE X e te) (hl : PO X lo tl) (hu : PO X hi th) (hst : PO X (some se) ts) : PE X (.Subscript e (.Slice lo hi (some se) p2) pos) (tSl3 r te tl th ts) := by
  intro pins s σ H Q I h
  refine Subscript_ (thn (he pins s σ H _ I h) fun v s1 ⟨x, H1, I1, r1, q1⟩ => ?_)
  refine wpAny_Slice (thn (hl pins s1 σ H1 _ I1 q1) fun vl s2 ⟨l, H2, I2, pl, q2⟩ => thn (hu pins s2 σ H2 _ I2 q2) fun vu s3 ⟨u, H3, I3, pu, q3⟩ => thn (hst pins s3 σ H3 _ I3 q3) fun vs s4 ⟨st, H4, I4, ps, q4⟩ => ?_)
  have I5 : Inv X pins σ H4 { s4 with heap := s4.heap.push { cls := .type "slice", data := .fields #[vl, vu, vs] } } := I4.kept (t' := s4.toks) fun b ob q => Heap.get?_push_of_some _ q
  obtain ⟨T, id, hT, ht, hg⟩ := hr pins { s4 with heap := s4.heap.push { cls := .type "slice", data := .fields #[vl, vu, vs] } } σ H4 x v vl vu vs l u st s4.heap.objs.size Q I5 r1 (Heap.IsSliceOf.new ..) pl pu ps q4
  show wpAny (model X.prog X.w) X.A (subscriptTail e (.Slice lo hi (some se) p2) v (.ref s4.heap.objs.size)) (EP X pins σ Q) X.xe { s4 with heap := s4.heap.push { cls := .type "slice", data := .fields #[vl, vu, vs] } }
  exact tail_any (ops := [v, .ref s4.heap.objs.size]) ht hT hg (by with_unfolding_all rfl)
theorem sl_ints3 : SlR3 X (fun x lo hi st H Q => ∃ (a : Addr) (ns : List Int), x = .ref a ∧ SqL X.K H a (ns.map V.int) ∧ st ≠ some 0 ∧ ∀ p, H p = none → Q (.ref p) (upd H p (.lst ((pickNums ns lo hi st).map V.int)))) := by
  intro pins s σ H x v vl vu vs lo hi st sl Q I rx hs pl pu ps h
  obtain ⟨a, ns, rfl, hx, h0, q⟩ := h
  cases rx
  obtain ⟨its, r, ht, hz⟩ := I.list hx
  have hI : IntsAre its ns := intsAre_of r
  refine ⟨"list", _, slot_list_getitem.lookup, ht.isList.typeIs, ?_⟩
  refine wpAny_getItem_list_slice ht.isList hs pl pu ps h0 ?_ (by rw [List.size_toArray, ← r.length]; exact hz)
  have hv : Vals ((pickNums ns lo hi st).map V.int) (slicePick its.toArray lo hi st).toList := vals_ints (hI.pick lo hi st)
  have hle : ((pickNums ns lo hi st).map V.int).length ≤ sizeLine := by
    rw [hv.length, Array.length_toList]
    refine Nat.le_trans (slicePick_size_le _ _ _ _) ?_
    rw [List.size_toArray, ← r.length]; exact hz
  refine ⟨.ref s.heap.objs.size, _, I.laid (t' := s.toks) (o := .lst ((pickNums ns lo hi st).map V.int)) (fun b ob q => Heap.get?_push_of_some _ q) (Nat.le_refl _) ?_, rfl, q _ (I.hok.fresh (Nat.le_refl _))⟩
  exact ⟨hle, _, 0, hv, by simpa using Heap.get?_push_size _ rfl⟩
theorem mt_sindex : MtR X "str.index" (fun x xs H Q => ∃ (z : Str) (c i : Nat), x = .str z ∧ xs = [.str ⟨#[c]⟩] ∧ z.cps.toList[i]? = some c ∧ (∀ j, j < i → z.cps.toList[j]? ≠ some c) ∧ Q (.int i) H) := by
  intro pins s σ H x xs v us Q I rx rs h
  obtain ⟨z, c, i, rfl, rfl, hi, hno, q⟩ := h
  obtain ⟨t, rfl⟩ := rx
  obtain ⟨u, rfl, t', rfl⟩ := vals1 rs
  have ho : Builtin.Str.occurrences z ⟨#[c]⟩ 0 z.length 1 = i :: [] := by
    rw [StrLaws.occ_eq, StrLaws.occ_firstX z c i hi hno (z.length + 1 - 0) 0 (Nat.zero_le _) (by omega)]
  exact SC.index ho ⟨.int i, H, I.tok _, ⟨_, rfl⟩, q⟩
end
end L2
end
section
namespace L2
open PySem PySem.Spec PyProof.Rows
section
variable {X : Cx} {C : Addr} {x : Str} {p pos : Pos}
structure Mk0 (K : PySem.W.Frag) (C : Addr) : Prop where
  makes : PySem.W.makesIn K C = true
  init : PySem.W.findIn K (.ref C) "__init__" = some (some (.builtin "object.__init__"))
  kp : PySem.W.keepIn K (.ref C) = true
def tMake0 (C : Addr) : TE := fun _ H Q => ∀ a dx, H a = none → H dx = none → dx ≠ a → Q (.ref a) (upd (upd H dx (.own a)) a (.ins C dx []))
theorem run_make0 {pins : List (Addr × Obj)} {σ : St} {H : Hp} {s : Shared} {Q : VK} (M : Mk0 X.K C) (I : Inv X pins σ H s) (h : ∀ a dx, H a = none → H dx = none → dx ≠ a → Q (.ref a) (upd (upd H dx (.own a)) a (.ins C dx []))) :
    wpAny (model X.prog X.w) X.A (call (.ref C) []) (EP X pins σ Q) X.xe s := by
  have hq := h (s.heap.objs.size + 1) s.heap.objs.size (I.hok.fresh (Nat.le_succ _)) (I.hok.fresh (Nat.le_refl _)) (Nat.ne_of_lt (Nat.lt_succ_self _))
  have I2 := Inv.made (C := C) I
  refine wpAny_call (make_map0 I.kIn M.makes M.init (fun self => PySem.W.Looks.of_pure (PySem.W.oi_bind self)) ?_)
  have Y := PySem.W.makes_of (M := model X.prog X.w) I.kIn M.makes
  have gx : ((s.heap.push PySem.W.emptyDict).push (PySem.W.instObj C s.heap.objs.size)).get? (s.heap.objs.size + 1) = some (PySem.W.instObj C s.heap.objs.size) := by
    have := Heap.get?_push_size (s.heap.push PySem.W.emptyDict) (o := PySem.W.instObj C s.heap.objs.size) rfl
    rwa [Heap.size_push] at this
  have ty : PySem.W.Looks (model X.prog X.w) ((s.heap.push PySem.W.emptyDict).push (PySem.W.instObj C s.heap.objs.size)) (typeOf (.ref (s.heap.objs.size + 1))) (.ref C) :=
    (PySem.W.Looks.ld gx).andThen .now
  have io : PySem.W.Looks (model X.prog X.w) ((s.heap.push PySem.W.emptyDict).push (PySem.W.instObj C s.heap.objs.size)) (isInstance (.ref (s.heap.objs.size + 1)) (.type "object")) true :=
    ty.andThen (Y.top.keeps fun b o e => Heap.get?_push_of_some _ (Heap.get?_push_of_some _ e))
  refine codeAny_call_builtin PySem.W.oi_plain PySem.W.entry_oi ?_
  refine PySem.W.check_slot PySem.W.oi_kind PySem.W.oi_split io (PySem.W.oi_args _) ?_
  rw [PySem.W.oi_run]
  exact wpAny_pure ⟨rfl, ⟨V.ref (s.heap.objs.size + 1), _, I2, rfl, hq⟩⟩
theorem pe_make00 (M : Mk0 X.K C) (hg : Gl X x) (hm : X.mg x = some (.ref C)) (hdb : (x == ("__debug__" : Str)) = false := by decide) : PE X (.Call (.Name x p) [] [] pos) (tMake0 C) := by
  intro pins s σ H Q I h
  exact wpAny_Call_Name_kw (ld_glob I hg hm (PySem.W.callWith_K0 I.kIn M.kp (run_make0 M I h)) hdb)
theorem call_isiC {K : PySem.W.Frag} (hK : X.K = K) : CallR X (.builtin "isinstance") (fun xs H Q => ∃ v c t cv b, xs = [v, c] ∧ (∀ u, RelV c u → u = cv) ∧ TyOf K H v t ∧ PySem.W.kitOne K t cv = some b ∧ Q (.bl b) H) := by
  subst hK
  intro pins s σ H xs us Q I r h
  obtain ⟨v, c, t, cv, b, rfl, hcv, ty, e, q⟩ := h
  obtain ⟨u, c', rfl, r1, r2⟩ := vals2 r
  have := hcv _ r2
  subst this
  exact isinst_ok I r1 ty e fun tk => ⟨.bl b, H, I.tok tk, rfl, q⟩
end
end L2
end
section
namespace L2
open PySem PySem.Spec PyProof.Rows
section
variable {X : Cx}
def FTryN (X : Cx) (B : Addr) (th : TS) (D : Ends) : XK := fun Cv _ H' => ∃ C, Cv = .ref C ∧ PySem.W.exmOne X.K (.ref C) (.ref B) = some true ∧ th D (List.replicate X.N.length none) H'
def tTryN (X : Cx) (B : Addr) (tb : XK → TS) (th : TS) : TS := fun D σ H => tb (FTryN X B th D) D σ H
theorem ps_tryN {d : Bool} {x : Str} {B : Addr} {body : List Stmt} {b0 : Stmt} {suite : List Stmt} {np hp pos : Pos} {tb : XK → TS} {th : TS} (hst : X.stack = X.env :: X.outer) (hfr : X.env.frame = some X.env.locals) (hg : Gl X x) (hm : X.mg x = some (.ref B))
    (hb : ∀ (F : XK) (pn : List (Addr × Obj)) (E : Value → Shared → Prop), Passes (CXE d X.prog X.w) (tX X pn E) F → PSs (tX X pn E) body (tb F))
    (hs : ∀ (a : Addr) (oe : Obj) (px : List (Addr × Obj)) (C : Addr), Held px a oe C → PSs (hX X a oe px) (b0 :: suite) th) (hd : (x == ("__debug__" : Str)) = false := by decide) :
    PS X (.Try body [.ExceptHandler (some (.Name x np)) none (b0 :: suite) hp] [] [] pos) (tTryN X B tb th) := by
  intro pins s σ H D I h
  refine wpAny_Try_except ?_
  refine tried (d := d) I (fun pn E => hb _ pn E) h (fun f s1 q => ?_) fun e s' q => ?_
  · cases f with
    | next => exact wpAny_execs_nil q
    | brk => exact q
    | cont => exact q
    | ret u => exact q
  · obtain ⟨σ1, H0, s1, I1, q⟩ := q
    refine catchX hst hfr hg hm hd I1 q (fun C H1 ⟨C', e, hex, _⟩ => by cases e; exact hex) fun a C H1 h3 T oe px c2 ea neT sh3 tb3 na nT h0 _ held qF keep => ?_
    obtain ⟨C', eC, hex, rd⟩ := qF
    cases eC
    refine codeAny_handlers_suite (setFlX (s := { s' with heap := h3 }) (fs := frs X.stack) neT sh3 tb3 fun h4 e4 _ _ kp4 => ?_)
    obtain ⟨I4, hp4⟩ := keep h4 e4 kp4
    have I4h : Inv (hX X a oe px) pins σ1 H1 { s' with heap := h4 } := I4.hold hp4
    refine wpAny_mono (hs a oe px C held pins _ _ H1 _ I4h.blank rd) (fun f s7 q => ?_) fun _ _ z => False.elim z
    cases f with
    | next => obtain ⟨σ7, H7, I7, q7⟩ := q; exact ⟨σ7, H7, I7.loose I.ok, q7⟩
    | brk => obtain ⟨σ7, H7, I7, q7⟩ := q; exact ⟨σ7, H7, I7.loose I.ok, q7⟩
    | cont => obtain ⟨σ7, H7, I7, q7⟩ := q; exact ⟨σ7, H7, I7.loose I.ok, q7⟩
    | ret u => obtain ⟨v, σ7, H7, I7, r7, q7⟩ := q; exact ⟨v, σ7, H7, I7.loose I.ok, r7, q7⟩
theorem keepNew {h h' : Heap} {o0 : Obj} (hk : ∀ b o, b ∉ [h.objs.size] → (h.push o0).get? b = some o → h'.get? b = some o) : ∀ b o, h.get? b = some o → h'.get? b = some o := fun b o e =>
  hk b o (fun hm => by have := List.mem_singleton.mp hm; exact absurd (this ▸ Heap.lt_size e) (Nat.lt_irrefl _)) (Heap.get?_push_of_some _ e)
theorem vals_num {ns : List Int} {its : List Value} (r : Vals (ns.map V.int) its) : ∀ (i : Nat) (v : Value), its.toArray[i]? = some v → ∃ t, v = Value.int (ns.getD i 0) t := by
  intro i v h
  have h' : its[i]? = some v := by simpa using h
  have hl := r.length
  rw [List.length_map] at hl
  obtain ⟨hi, _⟩ := List.getElem?_eq_some_iff.mp h'
  have e : (ns.map V.int)[i]? = some (.int ns[i]) := by rw [List.getElem?_map, List.getElem?_eq_getElem (by omega)]; rfl
  obtain ⟨u, eu, t, rfl⟩ := r.get e
  rw [h'] at eu
  cases eu
  refine ⟨t, ?_⟩
  simp [List.getD, show i < ns.length by omega]
theorem call_maxS (hc : X.calm = true) : CallR X (.builtin "max") (fun xs H Q => ∃ (a : Addr) (ns : List Int), xs = [V.ref a] ∧ (SqL X.K H a (ns.map V.int) ∨ SqT X.K H a (ns.map V.int)) ∧ 0 < ns.length ∧ ∀ m, m ∈ ns → (∀ y ∈ ns, y ≤ m) → Q (.int m) H) := by
  intro pins s σ H xs us Q I r h
  obtain ⟨a, ns, rfl, ha, hne, q⟩ := h
  obtain ⟨u, rfl, ru⟩ := vals1 r
  cases ru
  have hh : X.A.handled = none := I.ok.hd hc
  have fin : ∀ (its : List Value) (h' : Heap) (tk : Nat) (v : Value), Vals (ns.map V.int) its → its.toArray[argBest (fun i j => decide (ns.getD i 0 > ns.getD j 0)) (its.toArray.size - 1)]? = some v → (∀ b o, s.heap.get? b = some o → h'.get? b = some o) → EP X pins σ Q v { s with heap := h', toks := tk } := by
    intro its h' tk v r' hv k
    obtain ⟨t, rfl⟩ := vals_num r' _ _ hv
    have hl := r'.length
    rw [List.length_map] at hl
    have hsz : its.toArray.size = ns.length := by simp [hl]
    rw [hsz] at hv ⊢
    obtain ⟨b1, b2⟩ := argBest_gt (fun i => ns.getD i 0) (ns.length - 1)
    refine ⟨.int _, H, I.kept k, ⟨t, rfl⟩, q _ ?_ fun y hy => ?_⟩
    · have hlt : argBest (fun i j => decide (ns.getD i 0 > ns.getD j 0)) (ns.length - 1) < ns.length := by omega
      have gm : ∀ k, k < ns.length → ns.getD k 0 ∈ ns := fun k hk => by
        rw [show ns.getD k 0 = ns[k] by simp [List.getD, hk]]; exact List.getElem_mem hk
      exact gm _ hlt
    · obtain ⟨j, hj, rfl⟩ := List.getElem_of_mem hy
      have := b2 j (by omega)
      simpa [List.getD, hj] using this
  rcases ha with ha | ha
  · obtain ⟨its, r', pl, hz⟩ := I.list ha
    have hl := r'.length
    rw [List.length_map] at hl
    have hlt : a < s.heap.objs.size := by obtain ⟨_, e, _⟩ := pl.isList; exact Heap.lt_size e
    refine call_max_walk (wpAny_pyIter_list pl.isList ?_)
    refine ⟨s.heap.objs.size, [s.heap.objs.size, a], [s.heap.objs.size], its.toArray.size, _, _, _, rfl, Walks.list (A := X.A.in1) hh _ a (Nat.ne_of_lt hlt) its.toArray, ⟨⟨_, Heap.get?_push_size _ rfl, rfl, rfl⟩, pl.isList.push _⟩, fun b hb => ?_, by simp; omega, CmpOf.ints_gt (fun i => ns.getD i 0) (vals_num r'), fun v h' tk hP hk => fin its h' tk v r' hP (keepNew hk)⟩
    show b < (s.heap.push _).objs.size
    rw [Heap.size_push]
    rcases List.mem_cons.mp hb with e | e
    · rw [e]; exact Nat.lt_succ_self _
    · rw [List.mem_singleton.mp e]; exact Nat.lt_succ_of_lt hlt
  · obtain ⟨its, r', pl, hz⟩ := I.tuple ha
    have hl := r'.length
    rw [List.length_map] at hl
    have hlt : a < s.heap.objs.size := by obtain ⟨_, e, _⟩ := pl; exact Heap.lt_size e
    refine call_max_walk (wpAny_pyIter_tuple pl ?_)
    refine ⟨s.heap.objs.size, [s.heap.objs.size, a], [s.heap.objs.size], its.toArray.size, _, _, _, rfl, Walks.tuple (A := X.A.in1) hh _ a (Nat.ne_of_lt hlt) its.toArray, ⟨⟨_, Heap.get?_push_size _ rfl, rfl, rfl⟩, IsTup.push pl _⟩, fun b hb => ?_, by simp; omega, CmpOf.ints_gt (fun i => ns.getD i 0) (vals_num r'), fun v h' tk hP hk => fin its h' tk v r' hP (keepNew hk)⟩
    show b < (s.heap.push _).objs.size
    rw [Heap.size_push]
    rcases List.mem_cons.mp hb with e | e
    · rw [e]; exact Nat.lt_succ_self _
    · rw [List.mem_singleton.mp e]; exact Nat.lt_succ_of_lt hlt
end
end L2
namespace L2
open PySem PySem.Spec PyProof.Rows
theorem pe_fldK {X : Cx} {K : PySem.W.Frag} {e : Expr} {f : Str} {pos : Pos} {ta : TE} (hK : X.K = K) (he : PE X e ta) (hb : attributeBase e f X.env (eval e X.env) = eval e X.env) : PE X (.Attribute e f pos) (tFld K ta f) := hK ▸ pe_fld he hb
def CanMt (P : Program) (w : World) (K : PySem.W.Frag) (mg : Str → Option Value) (base : Heap) (k : Nat) (C : Addr) (m : Str) (ps : List Str) (sp : Sp) : Prop :=
  ∃ f fd, Meth K C m f ∧ Binds K fd ps [] ∧ FnOk P w K mg base CX0 k f fd ps sp
theorem pe_canMt {X : Cx} {k : Nat} {C : Addr} {m : Str} {ps : List Str} {sp : Sp} {o e : Expr} {es : List Expr} {ta : TE} {t : TA} {apos pos : Pos} {pl : Sem Bool} (he : PE X o ta) (c : Cls X.K C) (M : CanMt X.prog X.w X.K X.mg X.base k C m ps sp) (hr : Room k X.A) (ha : PA X (e :: es) t)
    (hst : starEach (e :: es) X.env = (false, eval e X.env) :: starEach es X.env := by rfl) (hpl : (backTo pos (starEach es X.env)).any (·.1) = false := by rfl)
    (ht : eval (.Call (.Attribute o m apos) (e :: es) [] pos) X.env = (do
      let ov ← eval o X.env
      standAt apos.atName
      let (f, first) ← holding [ov] (getMethod ov m pl)
      callWith pos f first (backTo pos (starEach (e :: es) X.env)) (backToKw pos (keywordEach [] X.env))) := by rfl) :
    PE X (.Call (.Attribute o m apos) (e :: es) [] pos) (tMeth C m sp [] E0 ta t) := by
  obtain ⟨f, fd, h1, h2, h3⟩ := M
  exact pe_meth he c h1 h3 hr h2 .nil pass0 ha hst hpl ht
end L2
end
section
namespace SortX
open PySem PyProof.Rows
def gallop' : Bool → Keyed → Array Keyed → Nat → Nat → Nat → StateT SortSt Sem (Option Nat) := sortPriv% PySem.Builtin.gallop
def mergeLo' : Array Keyed → Array Keyed → StateT SortSt Sem (Array Keyed) := sortPriv% PySem.Builtin.mergeLo
def mergeHi' : Array Keyed → Array Keyed → StateT SortSt Sem (Array Keyed) := sortPriv% PySem.Builtin.mergeHi
def nk (x : Keyed) : Int := numOf x.1
def IsI (x : Keyed) : Prop := ∃ n t, x.1 = .int n t
def bey (lf : Bool) (kx : Keyed) (ar : Array Keyed) (i : Nat) : StateT SortSt Sem (Option Bool) := do
  let x ← elem' ar i
  if lf then lt' x kx else return (← lt' kx x).map (!·)
def prB (lf : Bool) (kx x : Keyed) : Bool := if lf = true then decide (nk x < nk kx) else !decide (nk kx < nk x)
abbrev G3 := Option (Option Nat) × Nat × Nat
def gUp (lf : Bool) (kx : Keyed) (ar : Array Keyed) (bs ht n mx : Nat) : StateT SortSt Sem G3 :=
  forIn [0:n] ((none, 0, 1) : G3) fun _ c => if c.2.2 ≥ mx then pure (.done (none, c.2.1, c.2.2)) else do
    match ← bey lf kx ar (bs + (ht + c.2.2)) with
    | some more => if (!more) = true then pure (.done (none, c.2.1, c.2.2)) else pure (.yield (none, c.2.2, 2 * c.2.2 + 1))
    | _ => pure (.done (some none, c.2.1, c.2.2))
def gDn (lf : Bool) (kx : Keyed) (ar : Array Keyed) (bs ht n mx : Nat) : StateT SortSt Sem G3 :=
  forIn [0:n] ((none, 0, 1) : G3) fun _ c => if c.2.2 ≥ mx then pure (.done (none, c.2.1, c.2.2)) else do
    match ← bey lf kx ar (bs + (ht - c.2.2)) with
    | some fd => if fd = true then pure (.done (none, c.2.1, c.2.2)) else pure (.yield (none, c.2.2, 2 * c.2.2 + 1))
    | _ => pure (.done (some none, c.2.1, c.2.2))
def gBin (lf : Bool) (kx : Keyed) (ar : Array Keyed) (bs n lo hi : Nat) : StateT SortSt Sem G3 :=
  forIn [0:n] ((none, lo, hi) : G3) fun _ c => if c.2.1 ≥ c.2.2 then pure (.done (none, c.2.1, c.2.2)) else do
    match ← bey lf kx ar (bs + (c.2.1 + (c.2.2 - c.2.1) / 2)) with
    | some more => if more = true then pure (.yield (none, c.2.1 + (c.2.2 - c.2.1) / 2 + 1, c.2.2)) else pure (.yield (none, c.2.1, c.2.1 + (c.2.2 - c.2.1) / 2))
    | _ => pure (.done (some none, c.2.1, c.2.2))
section
variable {prog : Program} {w : World} {A : Around} {E : Value → Shared → Prop} {s : Shared} {st : SortSt}
theorem wpS_ltI {x y : Keyed} {Q : Option Bool → SortSt → Prop} (hk : kindOf st = oneType') (hx : IsI x) (hy : IsI y) (h : Q (some (decide (nk x < nk y))) st) : wpS (model prog w) A E s (lt' x y) Q st := by
  obtain ⟨x1, x2⟩ := x
  obtain ⟨y1, y2⟩ := y
  obtain ⟨a, t, rfl⟩ := hx
  obtain ⟨b, u, rfl⟩ := hy
  rw [lt'_eq]
  refine wpS_bind (wpS_get ?_)
  rw [hk, keyLt'_oneType]
  refine wpS_bind (wpS_lift (wpAny_attempt (oneLt_int ⟨rfl, ?_⟩)))
  exact wpS_pure h
theorem wpS_elemI {ar : Array Keyed} {i : Nat} {x : Keyed} {Q : Keyed → SortSt → Prop} (hx : ar[i]? = some x) (h : Q x st) : wpS (model prog w) A E s (elem' ar i) Q st := by
  rw [elem'_eq, hx]; exact wpS_pure h
theorem wpS_bey {lf : Bool} {kx x : Keyed} {ar : Array Keyed} {i : Nat} {Q : Option Bool → SortSt → Prop} (hk : kindOf st = oneType') (hx : ar[i]? = some x) (ix : IsI x) (ik : IsI kx) (h : Q (some (prB lf kx x)) st) : wpS (model prog w) A E s (bey lf kx ar i) Q st := by
  unfold bey
  refine wpS_bind (wpS_elemI hx ?_)
  unfold prB at h
  cases lf with
  | true => exact wpS_ltI hk ix ik h
  | false => exact wpS_bind (wpS_ltI hk ik ix (wpS_pure h))
variable {lf : Bool} {kx : Keyed} {ar : Array Keyed} {bs n : Nat} {P : Nat → Bool}
theorem wpS_gBin {lo hi : Nat} {Q : G3 → SortSt → Prop} (hk : kindOf st = oneType') (ik : IsI kx) (hP : ∀ i, i < n → ∃ x, ar[bs + i]? = some x ∧ IsI x ∧ prB lf kx x = P i) (mono : ∀ i j, i ≤ j → j < n → P j = true → P i = true)
    (h1 : lo ≤ hi) (h2 : hi ≤ n) (hlo : ∀ i, i < lo → P i = true) (hhi : ∀ i, hi ≤ i → i < n → P i = false)
    (h : ∀ k, k ≤ n → (∀ i, i < k → P i = true) → (∀ i, k ≤ i → i < n → P i = false) → Q (none, k, k) st) : wpS (model prog w) A E s (gBin lf kx ar bs n lo hi) Q st := by
  unfold gBin
  refine wpS_forRange (I := fun x c st' => st' = st ∧ ∃ l r, c = (none, l, r) ∧ l ≤ r ∧ r ≤ n ∧ r - l ≤ n - x ∧ (∀ i, i < l → P i = true) ∧ ∀ i, r ≤ i → i < n → P i = false) ?step ?fin ⟨rfl, lo, hi, rfl, h1, h2, by omega, hlo, hhi⟩
  case fin =>
    rintro c st' ⟨rfl, l, r, rfl, a1, a2, a3, a4, a5⟩
    have e : l = r := by omega
    subst e
    exact h l a2 a4 a5
  case step =>
    rintro x c st' _ hx ⟨rfl, l, r, rfl, a1, a2, a3, a4, a5⟩
    dsimp only
    by_cases hlr : l ≥ r
    · rw [if_pos hlr]
      have e : l = r := by omega
      subst e
      exact wpS_pure (h l a2 a4 a5)
    · rw [if_neg hlr]
      obtain ⟨y, e1, e2, e3⟩ := hP (l + (r - l) / 2) (by omega)
      refine wpS_bind (wpS_bey hk e1 e2 ik ?_)
      rw [e3]
      dsimp only
      cases hm : P (l + (r - l) / 2) with
      | true =>
        rw [if_pos rfl]
        exact wpS_pure ⟨rfl, _, _, rfl, by omega, a2, by omega, fun i hi => mono i (l + (r - l) / 2) (by omega) (by omega) hm, a5⟩
      | false =>
        rw [if_neg (by simp)]
        refine wpS_pure ⟨rfl, _, _, rfl, by omega, by omega, by omega, a4, fun i hi hn => ?_⟩
        cases hpi : P i with
        | false => rfl
        | true => rw [mono _ i hi hn hpi] at hm; cases hm
theorem wpS_gUp {ht : Nat} {Q : G3 → SortSt → Prop} (hk : kindOf st = oneType') (ik : IsI kx) (hP : ∀ i, i < n → ∃ x, ar[bs + i]? = some x ∧ IsI x ∧ prB lf kx x = P i) (hht : ht < n) (h0 : P ht = true)
    (h : ∀ l o, l < o → ht + l < n → P (ht + l) = true → (n - ht ≤ o ∨ (o < n - ht ∧ P (ht + o) = false)) → Q (none, l, o) st) : wpS (model prog w) A E s (gUp lf kx ar bs ht n (n - ht)) Q st := by
  unfold gUp
  refine wpS_forRange (I := fun x c st' => st' = st ∧ ∃ l o, c = (none, l, o) ∧ l < o ∧ x + 1 ≤ o ∧ ht + l < n ∧ P (ht + l) = true) ?step ?fin ⟨rfl, 0, 1, rfl, by omega, by omega, by omega, h0⟩
  case fin =>
    rintro c st' ⟨rfl, l, o, rfl, a1, a2, a3, a4⟩
    exact h l o a1 a3 a4 (.inl (by omega))
  case step =>
    rintro x c st' _ hx ⟨rfl, l, o, rfl, a1, a2, a3, a4⟩
    dsimp only
    by_cases ho : o ≥ n - ht
    · rw [if_pos ho]
      exact wpS_pure (h l o a1 a3 a4 (.inl ho))
    · rw [if_neg ho]
      obtain ⟨y, e1, e2, e3⟩ := hP (ht + o) (by omega)
      refine wpS_bind (wpS_bey hk e1 e2 ik ?_)
      rw [e3]
      dsimp only
      cases hm : P (ht + o) with
      | true =>
        rw [if_neg (by simp)]
        exact wpS_pure ⟨rfl, _, _, rfl, by omega, by omega, by omega, hm⟩
      | false =>
        rw [if_pos (show (!false) = true from rfl)]
        exact wpS_pure (h l o a1 a3 a4 (.inr ⟨by omega, hm⟩))
theorem wpS_gDn {ht : Nat} {Q : G3 → SortSt → Prop} (hk : kindOf st = oneType') (ik : IsI kx) (hP : ∀ i, i < n → ∃ x, ar[bs + i]? = some x ∧ IsI x ∧ prB lf kx x = P i) (hht : ht < n) (h0 : P ht = false)
    (h : ∀ l o, l < o → l ≤ ht → P (ht - l) = false → (ht + 1 ≤ o ∨ (o ≤ ht ∧ P (ht - o) = true)) → Q (none, l, o) st) : wpS (model prog w) A E s (gDn lf kx ar bs ht n (ht + 1)) Q st := by
  unfold gDn
  refine wpS_forRange (I := fun x c st' => st' = st ∧ ∃ l o, c = (none, l, o) ∧ l < o ∧ x + 1 ≤ o ∧ l ≤ ht ∧ P (ht - l) = false) ?step ?fin ⟨rfl, 0, 1, rfl, by omega, by omega, by omega, h0⟩
  case fin =>
    rintro c st' ⟨rfl, l, o, rfl, a1, a2, a3, a4⟩
    exact h l o a1 a3 a4 (.inl (by omega))
  case step =>
    rintro x c st' _ hx ⟨rfl, l, o, rfl, a1, a2, a3, a4⟩
    dsimp only
    by_cases ho : o ≥ ht + 1
    · rw [if_pos ho]
      exact wpS_pure (h l o a1 a3 a4 (.inl ho))
    · rw [if_neg ho]
      obtain ⟨y, e1, e2, e3⟩ := hP (ht - o) (by omega)
      refine wpS_bind (wpS_bey hk e1 e2 ik ?_)
      rw [e3]
      dsimp only
      cases hm : P (ht - o) with
      | true =>
        rw [if_pos rfl]
        exact wpS_pure (h l o a1 a3 a4 (.inr ⟨by omega, hm⟩))
      | false =>
        rw [if_neg (by simp)]
        exact wpS_pure ⟨rfl, _, _, rfl, by omega, by omega, by omega, hm⟩
theorem wpS_gallop {ht : Nat} {Q : Option Nat → SortSt → Prop} (hk : kindOf st = oneType') (ik : IsI kx) (hP : ∀ i, i < n → ∃ x, ar[bs + i]? = some x ∧ IsI x ∧ prB lf kx x = P i) (mono : ∀ i j, i ≤ j → j < n → P j = true → P i = true) (hht : ht < n)
    (h : ∀ k, k ≤ n → (∀ i, i < k → P i = true) → (∀ i, k ≤ i → i < n → P i = false) → Q (some k) st) : wpS (model prog w) A E s (gallop' lf kx ar bs n ht) Q st := by
  have no : ∀ i j, i ≤ j → j < n → P i = false → P j = false := fun i j hij hj hi => by
    cases hpj : P j with
    | false => rfl
    | true => rw [mono i j hij hj hpj] at hi; cases hi
  unfold gallop'
  refine wpS_bind ?_
  show wpS _ _ _ _ (bey lf kx ar (bs + ht)) _ _
  obtain ⟨x0, e1, e2, e3⟩ := hP ht hht
  refine wpS_bey hk e1 e2 ik ?_
  rw [e3]
  cases h0 : P ht with
  | true =>
    show wpS _ _ _ _ (gUp lf kx ar bs ht n (n - ht) >>= _) _ _
    refine wpS_bind (wpS_gUp hk ik hP hht h0 fun l o hlo hl hpl hor => ?_)
    show wpS _ _ _ _ (gBin lf kx ar bs n (ht + l + 1) (ht + min o (n - ht)) >>= _) _ _
    refine wpS_bind (wpS_gBin hk ik hP mono (by omega) (by omega) (fun i hi => mono i (ht + l) (by omega) hl hpl) (fun i hi hn => ?_) fun k hk1 hk2 hk3 => wpS_pure (h k hk1 hk2 hk3))
    rcases hor with z | ⟨z1, z2⟩
    · omega
    · exact no (ht + o) i (by omega) hn z2
  | false =>
    show wpS _ _ _ _ (gDn lf kx ar bs ht n (ht + 1) >>= _) _ _
    refine wpS_bind (wpS_gDn hk ik hP hht h0 fun l o hlo hl hpl hor => ?_)
    show wpS _ _ _ _ (gBin lf kx ar bs n (ht + 1 - min o (ht + 1)) (ht - l) >>= _) _ _
    refine wpS_bind (wpS_gBin hk ik hP mono (by omega) (by omega) (fun i hi => ?_) (fun i hi hn => no (ht - l) i hi hn hpl) fun k hk1 hk2 hk3 => wpS_pure (h k hk1 hk2 hk3))
    rcases hor with z | ⟨z1, z2⟩
    · omega
    · exact mono i (ht - o) (by omega) (by omega) z2
end
end SortX
end
section
namespace SortX
open PySem PyProof.Rows
def Srt (l : List Keyed) : Prop := l.Pairwise fun x y => nk x ≤ nk y
def Fin2 (a b r : Array Keyed) : Prop := r.toList.Perm (a.toList ++ b.toList) ∧ Srt r.toList
def SG (st st' : SortSt) : Prop := ∃ g, st' = SortSt.mk' (kindOf st) (arrOf st) (pendingOf st) g (failedOf st)
theorem SG.refl (st : SortSt) : SG st st := ⟨gallopOf st, rfl⟩
theorem SG.kind {st st' : SortSt} (h : SG st st') : kindOf st' = kindOf st := by obtain ⟨g, rfl⟩ := h; rfl
theorem SG.set {st st' : SortSt} (h : SG st st') (g : Nat) : SG st (SortSt.mk' (kindOf st') (arrOf st') (pendingOf st') g (failedOf st')) := by obtain ⟨_, rfl⟩ := h; exact ⟨g, rfl⟩
theorem drop_get {l : List Keyed} {i : Nat} {x : Keyed} (h : l[i]? = some x) : l.drop i = x :: l.drop (i + 1) := by
  obtain ⟨hl, e⟩ := List.getElem?_eq_some_iff.mp h
  rw [List.drop_eq_getElem_cons hl, e]
theorem Srt.head {l : List Keyed} (h : Srt l) {i : Nat} {x : Keyed} (hx : l[i]? = some x) : ∀ y ∈ l.drop i, nk x ≤ nk y := by
  intro y hy
  have h' : Srt (l.drop i) := h.sublist (List.drop_sublist i l)
  rw [drop_get hx] at h' hy
  rcases List.mem_cons.mp hy with e | e
  · rw [e]; exact Int.le_refl _
  · exact (List.pairwise_cons.mp h').1 y e
theorem ex_toEnd (a : Array Keyed) (i : Nat) : (a.extract i).toList = a.toList.drop i := by
  rw [Array.toList_extract, List.extract_eq_take_drop]
  exact List.take_of_length_le (by rw [List.length_drop, Array.length_toList]; omega)
structure MI (a b : Array Keyed) (out : Array Keyed) (ia ib : Nat) : Prop where
  pm : (out.toList ++ (a.toList.drop ia ++ b.toList.drop ib)).Perm (a.toList ++ b.toList)
  so : Srt out.toList
  ua : ∀ x ∈ out.toList, ∀ y ∈ a.toList.drop ia, nk x ≤ nk y
  ub : ∀ x ∈ out.toList, ∀ y ∈ b.toList.drop ib, nk x ≤ nk y
section
variable {a b out : Array Keyed} {ia ib : Nat}
theorem MI.pushB {x : Keyed} (m : MI a b out ia ib) (sb : Srt b.toList) (hb : b[ib]? = some x) (hx : ∀ y ∈ a.toList.drop ia, nk x ≤ nk y) : MI a b (out.push x) ia (ib + 1) := by
  have hb' : b.toList[ib]? = some x := by simpa using hb
  have e := drop_get hb'
  have hd := sb.head hb'
  obtain ⟨m1, m2, m3, m4⟩ := m
  rw [e] at m1 m4 hd
  refine ⟨?_, ?_, ?_, ?_⟩
  · refine List.Perm.trans ?_ m1
    rw [Array.toList_push, List.append_assoc]
    refine List.Perm.append_left _ ?_
    show (x :: (a.toList.drop ia ++ b.toList.drop (ib + 1))).Perm _
    exact List.perm_middle.symm
  · rw [Array.toList_push]
    unfold Srt
    rw [List.pairwise_append]
    refine ⟨m2, List.pairwise_singleton _ _, fun u hu v hv => ?_⟩
    rw [List.mem_singleton.mp hv]; exact m4 u hu x List.mem_cons_self
  · intro u hu y hy
    rw [Array.toList_push] at hu
    rcases List.mem_append.mp hu with z | z
    · exact m3 u z y hy
    · rw [List.mem_singleton.mp z]; exact hx y hy
  · intro u hu y hy
    rw [Array.toList_push] at hu
    rcases List.mem_append.mp hu with z | z
    · exact m4 u z y (List.mem_cons_of_mem _ hy)
    · rw [List.mem_singleton.mp z]; exact hd y (List.mem_cons_of_mem _ hy)
theorem MI.pushA {x : Keyed} (m : MI a b out ia ib) (sa : Srt a.toList) (ha : a[ia]? = some x) (hx : ∀ y ∈ b.toList.drop ib, nk x ≤ nk y) : MI a b (out.push x) (ia + 1) ib := by
  have ha' : a.toList[ia]? = some x := by simpa using ha
  have e := drop_get ha'
  have hd := sa.head ha'
  obtain ⟨m1, m2, m3, m4⟩ := m
  rw [e] at m1 m3 hd
  refine ⟨?_, ?_, ?_, ?_⟩
  · refine List.Perm.trans ?_ m1
    rw [Array.toList_push, List.append_assoc]
    exact List.Perm.refl _
  · rw [Array.toList_push]
    unfold Srt
    rw [List.pairwise_append]
    refine ⟨m2, List.pairwise_singleton _ _, fun u hu v hv => ?_⟩
    rw [List.mem_singleton.mp hv]; exact m3 u hu x List.mem_cons_self
  · intro u hu y hy
    rw [Array.toList_push] at hu
    rcases List.mem_append.mp hu with z | z
    · exact m3 u z y (List.mem_cons_of_mem _ hy)
    · rw [List.mem_singleton.mp z]; exact hd y (List.mem_cons_of_mem _ hy)
  · intro u hu y hy
    rw [Array.toList_push] at hu
    rcases List.mem_append.mp hu with z | z
    · exact m4 u z y hy
    · rw [List.mem_singleton.mp z]; exact hx y hy
theorem ex_snoc {a : Array Keyed} {i k : Nat} {x : Keyed} (h : a[i + k]? = some x) (out : Array Keyed) : out ++ a.extract i (i + (k + 1)) = (out ++ a.extract i (i + k)).push x := by
  have h' : a.toList[i + k]? = some x := by simpa using h
  apply Array.ext'
  rw [Array.toList_push, Array.toList_append, Array.toList_append, Array.toList_extract, Array.toList_extract, List.extract_eq_take_drop, List.extract_eq_take_drop]
  rw [show i + (k + 1) - i = k + 1 by omega, show i + k - i = k by omega, List.take_succ, List.getElem?_drop, h', List.append_assoc]
  rfl
theorem MI.extA (sa : Srt a.toList) (sb : Srt b.toList) (m : MI a b out ia ib) : ∀ k, (∀ i, i < k → ∃ x, a[ia + i]? = some x ∧ ∀ y ∈ b.toList.drop ib, nk x ≤ nk y) → MI a b (out ++ a.extract ia (ia + k)) (ia + k) ib
  | 0, _ => by
    have e : out ++ a.extract ia (ia + 0) = out := by
      apply Array.ext'
      rw [Array.toList_append, Array.toList_extract, List.extract_eq_take_drop]
      simp
    rw [e]; exact m
  | k + 1, h => by
    obtain ⟨x, h1, h2⟩ := h k (by omega)
    rw [ex_snoc h1]
    exact (MI.extA sa sb m k fun i hi => h i (by omega)).pushA sa h1 h2
theorem MI.extB (sa : Srt a.toList) (sb : Srt b.toList) (m : MI a b out ia ib) : ∀ k, (∀ i, i < k → ∃ x, b[ib + i]? = some x ∧ ∀ y ∈ a.toList.drop ia, nk x ≤ nk y) → MI a b (out ++ b.extract ib (ib + k)) ia (ib + k)
  | 0, _ => by
    have e : out ++ b.extract ib (ib + 0) = out := by
      apply Array.ext'
      rw [Array.toList_append, Array.toList_extract, List.extract_eq_take_drop]
      simp
    rw [e]; exact m
  | k + 1, h => by
    obtain ⟨x, h1, h2⟩ := h k (by omega)
    rw [ex_snoc h1]
    exact (MI.extB sa sb m k fun i hi => h i (by omega)).pushB sb h1 h2
theorem MI.done (m : MI a b out ia ib) (sa : Srt a.toList) (h : ib = b.size) : Fin2 a b (out ++ a.extract ia ++ b.extract ib) := by
  have e : (out ++ a.extract ia ++ b.extract ib).toList = out.toList ++ (a.toList.drop ia ++ b.toList.drop ib) := by
    rw [Array.toList_append, Array.toList_append, ex_toEnd, ex_toEnd, List.append_assoc]
  have e0 : b.toList.drop ib = [] := List.drop_of_length_le (by rw [Array.length_toList]; omega)
  refine ⟨by rw [e]; exact m.pm, ?_⟩
  rw [e, e0, List.append_nil]
  unfold Srt
  rw [List.pairwise_append]
  exact ⟨m.so, sa.sublist (List.drop_sublist _ _), m.ua⟩
theorem MI.last (m : MI a b out ia ib) (sb : Srt b.toList) {z : Keyed} (hz : a[ia]? = some z) (h : ia + 1 = a.size) (hle : ∀ y ∈ b.toList, nk y ≤ nk z) : Fin2 a b (out ++ b.extract ib ++ a.extract ia) := by
  have e : (out ++ b.extract ib ++ a.extract ia).toList = out.toList ++ (b.toList.drop ib ++ a.toList.drop ia) := by
    rw [Array.toList_append, Array.toList_append, ex_toEnd, ex_toEnd, List.append_assoc]
  have hz' : a.toList[ia]? = some z := by simpa using hz
  have e0 : a.toList.drop ia = [z] := by
    rw [drop_get hz', List.drop_of_length_le (by rw [Array.length_toList]; omega)]
  refine ⟨by rw [e]; exact (List.Perm.append_left _ List.perm_append_comm).trans m.pm, ?_⟩
  rw [e]
  unfold Srt
  rw [List.pairwise_append, List.pairwise_append]
  refine ⟨m.so, ⟨sb.sublist (List.drop_sublist _ _), by rw [e0]; exact List.pairwise_singleton _ _, fun u hu v hv => ?_⟩, fun u hu v hv => ?_⟩
  · rw [e0] at hv
    rw [List.mem_singleton.mp hv]; exact hle u (List.mem_of_mem_drop hu)
  · rcases List.mem_append.mp hv with q | q
    · exact m.ub u hu v q
    · exact m.ua u hu v q
end
section
variable {prog : Program} {w : World} {A : Around} {E : Value → Shared → Prop} {s : Shared} {st : SortSt} {a b : Array Keyed}
theorem at_of {a : Array Keyed} {i : Nat} (h : i < a.size) : ∃ x, a[i]? = some x := ⟨a[i], by simp [h]⟩
theorem mem_at {a : Array Keyed} {i : Nat} {x : Keyed} (h : a[i]? = some x) : x ∈ a.toList := by
  have : a.toList[i]? = some x := by simpa using h
  exact List.mem_of_getElem? this
theorem Srt.le_at {a : Array Keyed} (h : Srt a.toList) {i j : Nat} {x y : Keyed} (hij : i ≤ j) (hx : a[i]? = some x) (hy : a[j]? = some y) : nk x ≤ nk y := by
  have hx' : a.toList[i]? = some x := by simpa using hx
  have hy' : a.toList[j]? = some y := by simpa using hy
  refine h.head hx' y ?_
  have : (a.toList.drop i)[j - i]? = some y := by rw [List.getElem?_drop, show i + (j - i) = j by omega]; exact hy'
  exact List.mem_of_getElem? this
theorem wpS_gal {lf : Bool} {kx : Keyed} {ar : Array Keyed} {bs n ht : Nat} {Q : Option Nat → SortSt → Prop} (hk : kindOf st = oneType') (ik : IsI kx) (ia : ∀ x ∈ ar.toList, IsI x) (hbn : bs + n ≤ ar.size) (sr : ∀ i j x y, bs ≤ i → i ≤ j → j < bs + n → ar[i]? = some x → ar[j]? = some y → nk x ≤ nk y) (hht : ht < n)
    (h : ∀ k, k ≤ n → (∀ i x, i < k → ar[bs + i]? = some x → prB lf kx x = true) → (∀ i x, k ≤ i → i < n → ar[bs + i]? = some x → prB lf kx x = false) → Q (some k) st) : wpS (model prog w) A E s (gallop' lf kx ar bs n ht) Q st := by
  refine wpS_gallop (P := fun i => match ar[bs + i]? with | some x => prB lf kx x | none => false) hk ik (fun i hi => ?_) (fun i j hij hj hp => ?_) hht fun k k1 k2 k3 => h k k1 (fun i x hi hx => ?_) fun i x h1 h2 hx => ?_
  · obtain ⟨x, hx⟩ := at_of (a := ar) (i := bs + i) (by omega)
    exact ⟨x, hx, ia x (mem_at hx), by rw [hx]⟩
  · obtain ⟨x, hx⟩ := at_of (a := ar) (i := bs + i) (by omega)
    obtain ⟨y, hy⟩ := at_of (a := ar) (i := bs + j) (by omega)
    have hle := sr (bs + i) (bs + j) x y (by omega) (by omega) (by omega) hx hy
    rw [hy] at hp
    rw [hx]
    dsimp only at hp ⊢
    unfold prB at hp ⊢
    cases lf with
    | true =>
      rw [if_pos rfl] at hp ⊢
      have := of_decide_eq_true hp
      exact decide_eq_true (by omega)
    | false =>
      rw [if_neg (by simp)] at hp ⊢
      have hp' : ¬ nk kx < nk y := by simpa using hp
      simp; omega
  · have := k2 i hi
    rw [hx] at this; exact this
  · have := k3 i h1 h2
    rw [hx] at this; exact this
abbrev C7 := Option (Array Keyed) × Array Keyed × Nat × Nat × Nat × Nat × Nat
def lo3 (a b out : Array Keyed) (ia ib g ac bc : Nat) : StateT SortSt Sem (ForInStep C7) := do
  let x ← elem' a ia
  if (ia + 1 + 1 == a.size) = true then pure (.done (some (out.push x ++ b.extract ib ++ a.extract (ia + 1)), out.push x, ia + 1, ib, g, ac, bc))
  else if (decide (ac < 7) && decide (bc < 7)) = true then pure (.done (none, out.push x, ia + 1, ib, g, ac, bc)) else pure (.yield (none, out.push x, ia + 1, ib, g, ac, bc))
def lo2 (a b out : Array Keyed) (ia ib g ac bc : Nat) : StateT SortSt Sem (ForInStep C7) := do
  let y ← elem' b ib
  if (ib + 1 == b.size) = true then pure (.done (some (out.push y ++ a.extract ia ++ b.extract (ib + 1)), out.push y, ia, ib + 1, g, ac, bc)) else do
    let x ← elem' a ia
    match ← gallop' true x b (ib + 1) (b.size - (ib + 1)) 0 with
    | some k => if k > 0 then (if (ib + 1 + k == b.size) = true then pure (.done (some (out.push y ++ b.extract (ib + 1) (ib + 1 + k) ++ a.extract ia ++ b.extract (ib + 1 + k)), out.push y ++ b.extract (ib + 1) (ib + 1 + k), ia, ib + 1 + k, g, ac, k)) else lo3 a b (out.push y ++ b.extract (ib + 1) (ib + 1 + k)) ia (ib + 1 + k) g ac k) else lo3 a b (out.push y) ia (ib + 1) g ac k
    | _ => pure (.done (some (out.push y ++ a.extract ia ++ b.extract (ib + 1)), out.push y, ia, ib + 1, g, ac, bc))
theorem wpS_lo3 {out : Array Keyed} {ia ib g ac bc i0 : Nat} {R : ForInStep C7 → SortSt → Prop} (sa : Srt a.toList) (sb : Srt b.toList) (lastA : ∀ {out : Array Keyed} {ia ib : Nat}, MI a b out ia ib → ia + 1 = a.size → Fin2 a b (out ++ b.extract ib ++ a.extract ia))
    (m : MI a b out ia ib) (h1 : ia + 1 < a.size) (h2 : ib < b.size) (h3 : i0 ≤ ia + ib) {xa : Keyed} (hxa : a[ia]? = some xa) (hge : ∀ y ∈ b.toList.drop ib, nk xa ≤ nk y)
    (hd : ∀ r o, Fin2 a b r → R (.done (some r, o)) st) (hn : ∀ out ia ib g ac bc, MI a b out ia ib → ia + 1 < a.size → ib < b.size → i0 ≤ ia + ib → R (.done (none, out, ia, ib, g, ac, bc)) st ∧ R (.yield (none, out, ia, ib, g, ac, bc)) st) :
    wpS (model prog w) A E s (lo3 a b out ia ib g ac bc) R st := by
  unfold lo3
  refine wpS_bind (wpS_elemI hxa ?_)
  have m2 := m.pushA sa hxa hge
  by_cases c3 : (ia + 1 + 1 == a.size) = true
  · rw [if_pos c3]
    exact wpS_pure (hd _ _ (lastA m2 (beq_iff_eq.mp c3)))
  · rw [if_neg c3]
    have c3' : ¬ ia + 1 + 1 = a.size := fun z => c3 (beq_iff_eq.mpr z)
    obtain ⟨r1, r2⟩ := hn _ _ _ g ac bc m2 (by omega) h2 (by omega)
    split
    · exact wpS_pure r1
    · exact wpS_pure r2
theorem wpS_lo2 {out : Array Keyed} {ia ib g ac bc i0 : Nat} {R : ForInStep C7 → SortSt → Prop} (hk : kindOf st = oneType') (Ia : ∀ x ∈ a.toList, IsI x) (Ib : ∀ x ∈ b.toList, IsI x) (sa : Srt a.toList) (sb : Srt b.toList)
    (lastA : ∀ {out : Array Keyed} {ia ib : Nat}, MI a b out ia ib → ia + 1 = a.size → Fin2 a b (out ++ b.extract ib ++ a.extract ia))
    (m : MI a b out ia ib) (h1 : ia + 1 < a.size) (h2 : ib < b.size) (h3 : i0 ≤ ia + ib) {xa xb : Keyed} (hxa : a[ia]? = some xa) (hxb : b[ib]? = some xb) (hlt : nk xb < nk xa)
    (hd : ∀ r o, Fin2 a b r → R (.done (some r, o)) st) (hn : ∀ out ia ib g ac bc, MI a b out ia ib → ia + 1 < a.size → ib < b.size → i0 ≤ ia + ib → R (.done (none, out, ia, ib, g, ac, bc)) st ∧ R (.yield (none, out, ia, ib, g, ac, bc)) st) :
    wpS (model prog w) A E s (lo2 a b out ia ib g ac bc) R st := by
  have hxa' : a.toList[ia]? = some xa := by simpa using hxa
  unfold lo2
  refine wpS_bind (wpS_elemI hxb ?_)
  have m2 := m.pushB sb hxb fun y hy => Int.le_trans (Int.le_of_lt hlt) (sa.head hxa' y hy)
  by_cases c3 : (ib + 1 == b.size) = true
  · rw [if_pos c3]
    exact wpS_pure (hd _ _ (m2.done sa (beq_iff_eq.mp c3)))
  rw [if_neg c3]
  have c3' : ¬ ib + 1 = b.size := fun z => c3 (beq_iff_eq.mpr z)
  refine wpS_bind (wpS_elemI hxa ?_)
  refine wpS_bind (wpS_gal hk (Ia xa (mem_at hxa)) Ib (by omega) (fun i j x y _ hij _ hx hy => sb.le_at hij hx hy) (by omega) fun k k1 k2 k3 => ?_)
  dsimp only
  have lower : ∀ i x, i < k → b[ib + 1 + i]? = some x → nk x < nk xa := fun i x hi hx => by
    have := k2 i x hi hx
    unfold prB at this
    rw [if_pos rfl] at this
    exact of_decide_eq_true this
  have m3 := MI.extB sa sb m2 k fun i hi => by
    obtain ⟨x, hx⟩ := at_of (a := b) (i := ib + 1 + i) (by omega)
    exact ⟨x, hx, fun y hy => Int.le_trans (Int.le_of_lt (lower i x hi hx)) (sa.head hxa' y hy)⟩
  have upper : ib + 1 + k < b.size → ∀ y ∈ b.toList.drop (ib + 1 + k), nk xa ≤ nk y := fun hl y hy => by
    obtain ⟨x, hx⟩ := at_of hl
    have hx' : b.toList[ib + 1 + k]? = some x := by simpa using hx
    have := k3 k x (Nat.le_refl _) (by omega) hx
    unfold prB at this
    rw [if_pos rfl] at this
    exact Int.le_trans (Int.not_lt.mp (of_decide_eq_false this)) (sb.head hx' y hy)
  by_cases hk0 : k > 0
  · rw [if_pos hk0]
    by_cases c4 : (ib + 1 + k == b.size) = true
    · rw [if_pos c4]
      exact wpS_pure (hd _ _ (m3.done sa (beq_iff_eq.mp c4)))
    · rw [if_neg c4]
      have c4' : ¬ ib + 1 + k = b.size := fun z => c4 (beq_iff_eq.mpr z)
      exact wpS_lo3 sa sb lastA m3 h1 (by omega) (by omega) hxa (upper (by omega)) hd hn
  · rw [if_neg hk0]
    have k0 : k = 0 := by omega
    subst k0
    exact wpS_lo3 sa sb lastA m2 h1 (by omega) (by omega) hxa (upper (by omega)) hd hn
theorem wpS_mergeLo {Q : Array Keyed → SortSt → Prop} (hk : kindOf st = oneType') (Ia : ∀ x ∈ a.toList, IsI x) (Ib : ∀ x ∈ b.toList, IsI x) (sa : Srt a.toList) (sb : Srt b.toList) (ha : 0 < a.size) (hb : 0 < b.size)
    {zl b0 a0 : Keyed} (hzl : a[a.size - 1]? = some zl) (hle : ∀ y ∈ b.toList, nk y < nk zl) (hb0 : b[0]? = some b0) (ha0 : a[0]? = some a0) (hlt : nk b0 < nk a0)
    (h : ∀ r st', Fin2 a b r → SG st st' → Q r st') : wpS (model prog w) A E s (mergeLo' a b) Q st := by
  have hle' : ∀ y ∈ b.toList, nk y ≤ nk zl := fun y hy => Int.le_of_lt (hle y hy)
  have m0 : MI a b #[] 0 0 := ⟨by simp, List.Pairwise.nil, by simp, by simp⟩
  have ha0' : a.toList[0]? = some a0 := by simpa using ha0
  have m1 : MI a b #[b0] 0 1 := m0.pushB sb hb0 fun y hy => Int.le_trans (Int.le_of_lt hlt) (sa.head ha0' y hy)
  have lastA : ∀ {out : Array Keyed} {ia ib : Nat}, MI a b out ia ib → ia + 1 = a.size → Fin2 a b (out ++ b.extract ib ++ a.extract ia) := fun {out ia ib} m e => m.last sb (by rw [show ia = a.size - 1 by omega]; exact hzl) e hle'
  unfold mergeLo'
  refine wpS_bind (wpS_lift (wpAny_rule ⟨rfl, ?_⟩))
  dsimp only
  refine wpS_bind (wpS_elemI hb0 ?_)
  by_cases c1 : ((1 : Nat) == b.size) = true
  · rw [if_pos c1]
    exact wpS_pure (h _ _ (m1.done sa (beq_iff_eq.mp c1)) (SG.refl st))
  rw [if_neg c1]
  by_cases c2 : ((0 : Nat) + 1 == a.size) = true
  · rw [if_pos c2]
    exact wpS_pure (h _ _ (lastA m1 (beq_iff_eq.mp c2)) (SG.refl st))
  rw [if_neg c2]
  have c1' : 1 < b.size := by have : ¬ 1 = b.size := fun z => c1 (beq_iff_eq.mpr z); omega
  have c2' : 1 < a.size := by have : ¬ 0 + 1 = a.size := fun z => c2 (beq_iff_eq.mpr z); omega
  refine wpS_bind (wpS_get ?_)
  refine wpS_bind (wpS_mono (wpS_forRange (I := fun x c st' => SG st st' ∧ ∃ out ia ib g, c = (none, out, ia, ib, g) ∧ MI a b out ia ib ∧ ia + 1 < a.size ∧ ib < b.size ∧ x + 1 ≤ ia + ib)
    (Q := fun c st' => SG st st' ∧ ∃ r, c.1 = some r ∧ Fin2 a b r) ?step ?fin ⟨SG.refl st, #[b0], 0, 1, _, rfl, m1, c2', c1', by omega⟩) ?post)
  case post =>
    rintro ⟨r0, c⟩ st' ⟨g, r, e, f⟩
    dsimp only at e
    subst e
    exact wpS_pure (h r st' f g)
  case fin =>
    rintro c st' ⟨_, out, ia, ib, g, rfl, m, h1, h2, h3⟩
    omega
  case step =>
    rintro x c st1 _ hx ⟨sg1, out, ia, ib, g, rfl, m, h1, h2, h3⟩
    have hk1 : kindOf st1 = oneType' := sg1.kind.trans hk
    dsimp only
    refine wpS_bind (wpS_mono (wpS_forRange (I := fun y c st' => st' = st1 ∧ ∃ out' ia' ib' ac bc, c = (none, out', ia', ib', ac, bc) ∧ MI a b out' ia' ib' ∧ ia' + 1 < a.size ∧ ib' < b.size ∧ ia + ib + y ≤ ia' + ib')
      (Q := fun c st' => st' = st1 ∧ ((∃ r o, c = (some r, o) ∧ Fin2 a b r) ∨ ∃ out' ia' ib' ac bc, c = (none, out', ia', ib', ac, bc) ∧ MI a b out' ia' ib' ∧ ia' + 1 < a.size ∧ ib' < b.size ∧ ia + ib + 1 ≤ ia' + ib')) ?step1 ?fin1 ⟨rfl, out, ia, ib, _, _, rfl, m, h1, h2, by omega⟩) ?post1)
    case fin1 =>
      rintro c st' ⟨rfl, out', ia', ib', ac, bc, rfl, m', q1, q2, q3⟩
      exact ⟨rfl, .inr ⟨out', ia', ib', ac, bc, rfl, m', q1, q2, by omega⟩⟩
    case step1 =>
      rintro y c st' _ hy ⟨rfl, out', ia', ib', ac, bc, rfl, m', q1, q2, q3⟩
      dsimp only
      obtain ⟨xb, hxb⟩ := at_of q2
      obtain ⟨xa, hxa⟩ := at_of (show ia' < a.size by omega)
      have hxa' : a.toList[ia']? = some xa := by simpa using hxa
      have hxb' : b.toList[ib']? = some xb := by simpa using hxb
      refine wpS_bind (wpS_elemI hxb (wpS_bind (wpS_elemI hxa (wpS_bind (wpS_ltI hk1 (Ib xb (mem_at hxb)) (Ia xa (mem_at hxa)) ?_)))))
      dsimp only
      by_cases hw : nk xb < nk xa
      · rw [decide_eq_true hw, if_pos rfl]
        refine wpS_bind (wpS_elemI hxb ?_)
        have m2 := m'.pushB sb hxb fun z hz => Int.le_trans (Int.le_of_lt hw) (sa.head hxa' z hz)
        by_cases c3 : (ib' + 1 == b.size) = true
        · rw [if_pos c3]
          exact wpS_pure ⟨rfl, .inl ⟨_, _, rfl, m2.done sa (beq_iff_eq.mp c3)⟩⟩
        · rw [if_neg c3]
          have c3' : ¬ ib' + 1 = b.size := fun z => c3 (beq_iff_eq.mpr z)
          split
          · exact wpS_pure ⟨rfl, .inr ⟨_, _, _, _, _, rfl, m2, q1, by omega, by omega⟩⟩
          · exact wpS_pure ⟨rfl, _, _, _, _, _, rfl, m2, q1, by omega, by omega⟩
      · rw [decide_eq_false hw, if_neg (by simp)]
        refine wpS_bind (wpS_elemI hxa ?_)
        have m2 := m'.pushA sa hxa fun z hz => Int.le_trans (Int.not_lt.mp hw) (sb.head hxb' z hz)
        by_cases c3 : (ia' + 1 + 1 == a.size) = true
        · rw [if_pos c3]
          exact wpS_pure ⟨rfl, .inl ⟨_, _, rfl, lastA m2 (beq_iff_eq.mp c3)⟩⟩
        · rw [if_neg c3]
          have c3' : ¬ ia' + 1 + 1 = a.size := fun z => c3 (beq_iff_eq.mpr z)
          split
          · exact wpS_pure ⟨rfl, .inr ⟨_, _, _, _, _, rfl, m2, by omega, q2, by omega⟩⟩
          · exact wpS_pure ⟨rfl, _, _, _, _, _, rfl, m2, by omega, q2, by omega⟩
    case post1 =>
      rintro c st' ⟨rfl, ⟨r, o, rfl, f⟩ | ⟨out', ia', ib', ac, bc, rfl, m', q1, q2, q3⟩⟩
      · exact wpS_pure ⟨sg1, r, rfl, f⟩
      · dsimp only
        refine wpS_bind (wpS_lift (wpAny_rule ⟨rfl, ?_⟩))
        refine wpS_bind (wpS_mono (wpS_forRange (I := fun y c st' => SG st st' ∧ ∃ out2 ia2 ib2 g2 ac bc, c = (none, out2, ia2, ib2, g2, ac, bc) ∧ MI a b out2 ia2 ib2 ∧ ia2 + 1 < a.size ∧ ib2 < b.size ∧ ia' + ib' ≤ ia2 + ib2)
          (Q := fun c st' => SG st st' ∧ ((∃ r o, c = (some r, o) ∧ Fin2 a b r) ∨ ∃ out2 ia2 ib2 g2 ac bc, c = (none, out2, ia2, ib2, g2, ac, bc) ∧ MI a b out2 ia2 ib2 ∧ ia2 + 1 < a.size ∧ ib2 < b.size ∧ ia' + ib' ≤ ia2 + ib2)) ?step2 ?fin2 ⟨sg1, out', ia', ib', _, _, _, rfl, m', q1, q2, Nat.le_refl _⟩) ?post2)
        case fin2 =>
          rintro c st' ⟨sg, out2, ia2, ib2, g2, ac, bc, rfl, m2, u1, u2, u3⟩
          exact ⟨sg, .inr ⟨out2, ia2, ib2, g2, ac, bc, rfl, m2, u1, u2, u3⟩⟩
        case post2 =>
          rintro c st' ⟨sg, ⟨r, o, rfl, f⟩ | ⟨out2, ia2, ib2, g2, ac, bc, rfl, m2, u1, u2, u3⟩⟩
          · exact wpS_pure ⟨sg, r, rfl, f⟩
          · dsimp only
            refine wpS_bind (wpS_modify ?_)
            exact wpS_pure ⟨sg.set _, _, _, _, _, rfl, m2, u1, u2, by omega⟩
        case step2 =>
          rintro y c st2 _ hy ⟨sg2, out2, ia2, ib2, g2, ac, bc, rfl, m2, u1, u2, u3⟩
          have hk2 : kindOf st2 = oneType' := sg2.kind.trans hk
          obtain ⟨xb, hxb⟩ := at_of u2
          have hxb' : b.toList[ib2]? = some xb := by simpa using hxb
          dsimp only
          have hg := Nat.lt_or_ge 1 g2
          rcases hg with hg | hg
          rw [if_pos hg]
          rotate_left
          rw [if_neg (Nat.not_lt.mpr hg)]
          all_goals
            refine wpS_bind (wpS_modify ?_)
            refine wpS_bind (wpS_elemI hxb ?_)
            refine wpS_bind ?_
            show wpS _ _ _ _ (gallop' false xb a ia2 (a.size - ia2) 0) _ _
            refine wpS_gal (lf := false) hk2 (Ib xb (mem_at hxb)) Ia (by omega) (fun i j x y _ hij _ hx hy => sa.le_at hij hx hy) (by omega) fun k k1 k2 k3 => ?_
            dsimp only
            have lower : ∀ i x, i < k → a[ia2 + i]? = some x → nk x ≤ nk xb := fun i x hi hx => by
              have := k2 i x hi hx
              unfold prB at this
              rw [if_neg (by simp)] at this
              have h' : ¬ nk xb < nk x := by simpa using this
              exact Int.not_lt.mp h'
            have kb : ia2 + k < a.size := by
              refine Decidable.byContradiction fun hc => ?_
              have h' := lower (a.size - 1 - ia2) zl (by omega) (by rw [show ia2 + (a.size - 1 - ia2) = a.size - 1 by omega]; exact hzl)
              have := hle xb (mem_at hxb)
              omega
            obtain ⟨xa, hxa⟩ := at_of kb
            have hlt2 : nk xb < nk xa := by
              have := k3 k xa (Nat.le_refl _) (by omega) hxa
              unfold prB at this
              rw [if_neg (by simp)] at this
              simpa using this
            have m3 := MI.extA sa sb m2 k fun i hi => by
              obtain ⟨x, hx⟩ := at_of (a := a) (i := ia2 + i) (by omega)
              exact ⟨x, hx, fun z hz => Int.le_trans (lower i x hi hx) (sb.head hxb' z hz)⟩
            by_cases hk0 : k > 0
            · rw [if_pos hk0]
              by_cases c5 : (ia2 + k + 1 == a.size) = true
              · rw [if_pos c5]
                exact wpS_pure ⟨sg2.set _, .inl ⟨_, _, rfl, lastA m3 (beq_iff_eq.mp c5)⟩⟩
              · rw [if_neg c5]
                have c5' : ¬ ia2 + k + 1 = a.size := fun z => c5 (beq_iff_eq.mpr z)
                rw [if_neg (by simp; omega)]
                show wpS _ _ _ _ (lo2 a b (out2 ++ a.extract ia2 (ia2 + k)) (ia2 + k) ib2 _ k bc) _ _
                exact wpS_lo2 (i0 := ia' + ib') hk2 Ia Ib sa sb lastA m3 (by omega) u2 (by omega) hxa hxb hlt2 (fun r o f => ⟨sg2.set _, .inl ⟨r, o, rfl, f⟩⟩) fun o i j g c d q1 q2 q3 q4 => ⟨⟨sg2.set _, .inr ⟨_, _, _, _, _, _, rfl, q1, q2, q3, q4⟩⟩, sg2.set _, _, _, _, _, _, _, rfl, q1, q2, q3, q4⟩
            · rw [if_neg hk0]
              have k0 : k = 0 := by omega
              subst k0
              show wpS _ _ _ _ (lo2 a b out2 ia2 ib2 _ 0 bc) _ _
              exact wpS_lo2 (i0 := ia' + ib') hk2 Ia Ib sa sb lastA m2 (by omega) u2 (by omega) hxa hxb hlt2 (fun r o f => ⟨sg2.set _, .inl ⟨r, o, rfl, f⟩⟩) fun o i j g c d q1 q2 q3 q4 => ⟨⟨sg2.set _, .inr ⟨_, _, _, _, _, _, rfl, q1, q2, q3, q4⟩⟩, sg2.set _, _, _, _, _, _, _, rfl, q1, q2, q3, q4⟩
end
end SortX
end
section
namespace SortX
open PySem PyProof.Rows
theorem take_get {l : List Keyed} {i : Nat} {x : Keyed} (h : l[i]? = some x) : l.take (i + 1) = l.take i ++ [x] := by rw [List.take_succ, h]; rfl
theorem Srt.tail {l : List Keyed} (h : Srt l) {i : Nat} {x : Keyed} (hx : l[i]? = some x) : ∀ y ∈ l.take (i + 1), nk y ≤ nk x := by
  intro y hy
  have h' : Srt (l.take (i + 1)) := h.sublist (List.take_sublist _ l)
  rw [take_get hx] at h' hy
  rcases List.mem_append.mp hy with e | e
  · exact (List.pairwise_append.mp h').2.2 y e x (by simp)
  · rw [List.mem_singleton.mp e]; exact Int.le_refl _
theorem ex_from0 (a : Array Keyed) (i : Nat) : (a.extract 0 i).toList = a.toList.take i := by
  rw [Array.toList_extract, List.extract_eq_take_drop]; simp
structure MH (a b : Array Keyed) (out : Array Keyed) (na nb : Nat) : Prop where
  pm : (a.toList.take na ++ (b.toList.take nb ++ out.toList.reverse)).Perm (a.toList ++ b.toList)
  so : Srt out.toList.reverse
  ua : ∀ x ∈ a.toList.take na, ∀ y ∈ out.toList, nk x ≤ nk y
  ub : ∀ x ∈ b.toList.take nb, ∀ y ∈ out.toList, nk x ≤ nk y
section
variable {a b out : Array Keyed} {na nb : Nat}
theorem rev_push (out : Array Keyed) (x : Keyed) : (out.push x).toList.reverse = x :: out.toList.reverse := by rw [Array.toList_push, List.reverse_append]; rfl
theorem MH.pushB {x : Keyed} (m : MH a b out na (nb + 1)) (sb : Srt b.toList) (hb : b[nb]? = some x) (hx : ∀ y ∈ a.toList.take na, nk y ≤ nk x) : MH a b (out.push x) na nb := by
  have hb' : b.toList[nb]? = some x := by simpa using hb
  have e := take_get hb'
  have hd := sb.tail hb'
  obtain ⟨m1, m2, m3, m4⟩ := m
  rw [e] at m1 m4 hd
  refine ⟨?_, ?_, ?_, ?_⟩
  · refine List.Perm.trans ?_ m1
    rw [rev_push, List.append_assoc]
    exact List.Perm.refl _
  · rw [rev_push]
    unfold Srt
    rw [List.pairwise_cons]
    exact ⟨fun v hv => m4 x (by simp) v (List.mem_reverse.mp hv), m2⟩
  · intro u hu y hy
    rw [Array.toList_push] at hy
    rcases List.mem_append.mp hy with z | z
    · exact m3 u hu y z
    · rw [List.mem_singleton.mp z]; exact hx u hu
  · intro u hu y hy
    rw [Array.toList_push] at hy
    rcases List.mem_append.mp hy with z | z
    · exact m4 u (List.mem_append_left _ hu) y z
    · rw [List.mem_singleton.mp z]; exact hd u (List.mem_append_left _ hu)
theorem MH.pushA {x : Keyed} (m : MH a b out (na + 1) nb) (sa : Srt a.toList) (ha : a[na]? = some x) (hx : ∀ y ∈ b.toList.take nb, nk y ≤ nk x) : MH a b (out.push x) na nb := by
  have ha' : a.toList[na]? = some x := by simpa using ha
  have e := take_get ha'
  have hd := sa.tail ha'
  obtain ⟨m1, m2, m3, m4⟩ := m
  rw [e] at m1 m3 hd
  refine ⟨?_, ?_, ?_, ?_⟩
  · refine List.Perm.trans ?_ m1
    rw [rev_push, List.append_assoc]
    refine List.Perm.append_left _ ?_
    show (b.toList.take nb ++ x :: out.toList.reverse).Perm (x :: (b.toList.take nb ++ out.toList.reverse))
    exact List.perm_middle
  · rw [rev_push]
    unfold Srt
    rw [List.pairwise_cons]
    exact ⟨fun v hv => m3 x (by simp) v (List.mem_reverse.mp hv), m2⟩
  · intro u hu y hy
    rw [Array.toList_push] at hy
    rcases List.mem_append.mp hy with z | z
    · exact m3 u (List.mem_append_left _ hu) y z
    · rw [List.mem_singleton.mp z]; exact hd u (List.mem_append_left _ hu)
  · intro u hu y hy
    rw [Array.toList_push] at hy
    rcases List.mem_append.mp hy with z | z
    · exact m4 u hu y z
    · rw [List.mem_singleton.mp z]; exact hx u hu
theorem exr_snoc {a : Array Keyed} {i n : Nat} {x : Keyed} (h : a[i]? = some x) (hn : i < n) (hs : n ≤ a.size) (out : Array Keyed) : out ++ (a.extract i n).reverse = (out ++ (a.extract (i + 1) n).reverse).push x := by
  have h' : a.toList[i]? = some x := by simpa using h
  apply Array.ext'
  rw [Array.toList_push, Array.toList_append, Array.toList_append, Array.toList_reverse, Array.toList_reverse, Array.toList_extract, Array.toList_extract, List.extract_eq_take_drop, List.extract_eq_take_drop]
  rw [drop_get h', show n - i = (n - (i + 1)) + 1 by omega, List.take_succ_cons, List.reverse_cons, List.append_assoc]
theorem MH.extA (sa : Srt a.toList) (ha : na ≤ a.size) (m : MH a b out na nb) : ∀ k at', na = at' + k → (∀ i, at' ≤ i → i < na → ∃ x, a[i]? = some x ∧ ∀ y ∈ b.toList.take nb, nk y ≤ nk x) → MH a b (out ++ (a.extract at' na).reverse) at' nb
  | 0, at', e, _ => by
    have z : out ++ (a.extract at' na).reverse = out := by
      apply Array.ext'
      rw [Array.toList_append, Array.toList_reverse, Array.toList_extract, List.extract_eq_take_drop, show na - at' = 0 by omega]
      simp
    rw [z, show at' = na by omega]; exact m
  | k + 1, at', e, h => by
    obtain ⟨x, h1, h2⟩ := h at' (Nat.le_refl _) (by omega)
    rw [exr_snoc h1 (by omega) ha]
    exact (MH.extA sa ha m k (at' + 1) (by omega) fun i hi hn => h i (by omega) hn).pushA sa h1 h2
theorem MH.extB (sb : Srt b.toList) (hb : nb ≤ b.size) (m : MH a b out na nb) : ∀ k at', nb = at' + k → (∀ i, at' ≤ i → i < nb → ∃ x, b[i]? = some x ∧ ∀ y ∈ a.toList.take na, nk y ≤ nk x) → MH a b (out ++ (b.extract at' nb).reverse) na at'
  | 0, at', e, _ => by
    have z : out ++ (b.extract at' nb).reverse = out := by
      apply Array.ext'
      rw [Array.toList_append, Array.toList_reverse, Array.toList_extract, List.extract_eq_take_drop, show nb - at' = 0 by omega]
      simp
    rw [z, show at' = nb by omega]; exact m
  | k + 1, at', e, h => by
    obtain ⟨x, h1, h2⟩ := h at' (Nat.le_refl _) (by omega)
    rw [exr_snoc h1 (by omega) hb]
    exact (MH.extB sb hb m k (at' + 1) (by omega) fun i hi hn => h i (by omega) hn).pushB sb h1 h2
theorem MH.done (m : MH a b out na nb) (sb : Srt b.toList) (h : na = 0) : Fin2 a b (a.extract 0 na ++ b.extract 0 nb ++ out.reverse) := by
  have e : (a.extract 0 na ++ b.extract 0 nb ++ out.reverse).toList = a.toList.take na ++ (b.toList.take nb ++ out.toList.reverse) := by
    rw [Array.toList_append, Array.toList_append, ex_from0, ex_from0, Array.toList_reverse, List.append_assoc]
  refine ⟨by rw [e]; exact m.pm, ?_⟩
  rw [e, h, List.take_zero, List.nil_append]
  unfold Srt
  rw [List.pairwise_append]
  exact ⟨sb.sublist (List.take_sublist _ _), m.so, fun u hu v hv => m.ub u hu v (List.mem_reverse.mp hv)⟩
theorem MH.first (m : MH a b out na nb) (sa : Srt a.toList) {z : Keyed} (hz : b[0]? = some z) (h : nb = 1) (hle : ∀ y ∈ a.toList, nk z ≤ nk y) : Fin2 a b (b.extract 0 nb ++ a.extract 0 na ++ out.reverse) := by
  have e : (b.extract 0 nb ++ a.extract 0 na ++ out.reverse).toList = b.toList.take nb ++ (a.toList.take na ++ out.toList.reverse) := by
    rw [Array.toList_append, Array.toList_append, ex_from0, ex_from0, Array.toList_reverse, List.append_assoc]
  have hz' : b.toList[0]? = some z := by simpa using hz
  have e0 : b.toList.take nb = [z] := by rw [h, take_get hz']; rfl
  refine ⟨?_, ?_⟩
  · rw [e]
    refine List.Perm.trans ?_ m.pm
    rw [← List.append_assoc, ← List.append_assoc]
    exact List.Perm.append_right _ List.perm_append_comm
  · rw [e]
    unfold Srt
    rw [List.pairwise_append, List.pairwise_append]
    refine ⟨by rw [e0]; exact List.pairwise_singleton _ _, ⟨sa.sublist (List.take_sublist _ _), m.so, fun u hu v hv => m.ua u hu v (List.mem_reverse.mp hv)⟩, fun u hu v hv => ?_⟩
    rcases List.mem_append.mp hv with q | q
    · rw [e0] at hu
      rw [List.mem_singleton.mp hu]; exact hle v (List.mem_of_mem_take q)
    · exact m.ub u hu v (List.mem_reverse.mp q)
end
abbrev D7 := Option (Array Keyed) × Nat × Nat × Array Keyed × Nat × Nat × Nat
def hi3 (a b : Array Keyed) (na nb : Nat) (out : Array Keyed) (g ac bc : Nat) : StateT SortSt Sem (ForInStep D7) := do
  let x ← elem' a (na - 1)
  if (na - 1 == 0) = true then pure (.done (some (a.extract 0 (na - 1) ++ b.extract 0 nb ++ (out.push x).reverse), na - 1, nb, out.push x, g, ac, bc))
  else if (decide (ac < 7) && decide (bc < 7)) = true then pure (.done (none, na - 1, nb, out.push x, g, ac, bc)) else pure (.yield (none, na - 1, nb, out.push x, g, ac, bc))
def hi2 (a b : Array Keyed) (na nb : Nat) (out : Array Keyed) (g ac bc : Nat) : StateT SortSt Sem (ForInStep D7) := do
  let y ← elem' b (nb - 1)
  if (nb - 1 == 1) = true then pure (.done (some (b.extract 0 (nb - 1) ++ a.extract 0 na ++ (out.push y).reverse), na, nb - 1, out.push y, g, ac, bc)) else do
    let x ← elem' a (na - 1)
    match ← gallop' true x b 0 (nb - 1) (nb - 1 - 1) with
    | some p => if nb - 1 - p > 0 then (if (p == 1) = true then pure (.done (some (b.extract 0 p ++ a.extract 0 na ++ (out.push y ++ (b.extract p (nb - 1)).reverse).reverse), na, p, out.push y ++ (b.extract p (nb - 1)).reverse, g, ac, nb - 1 - p))
        else if (p == 0) = true then pure (.done (some (a.extract 0 na ++ b.extract 0 p ++ (out.push y ++ (b.extract p (nb - 1)).reverse).reverse), na, p, out.push y ++ (b.extract p (nb - 1)).reverse, g, ac, nb - 1 - p)) else hi3 a b na p (out.push y ++ (b.extract p (nb - 1)).reverse) g ac (nb - 1 - p)) else hi3 a b na (nb - 1) (out.push y) g ac (nb - 1 - p)
    | _ => pure (.done (some (a.extract 0 na ++ b.extract 0 (nb - 1) ++ (out.push y).reverse), na, nb - 1, out.push y, g, ac, bc))
section
variable {prog : Program} {w : World} {A : Around} {E : Value → Shared → Prop} {s : Shared} {st : SortSt} {a b : Array Keyed}
theorem wpS_hi3 {out : Array Keyed} {na nb g ac bc i0 : Nat} {R : ForInStep D7 → SortSt → Prop} (sa : Srt a.toList) (sb : Srt b.toList)
    (m : MH a b out na nb) (h1 : 0 < na) (h1' : na ≤ a.size) (h2 : 1 < nb) (h2' : nb ≤ b.size) (h3 : na + nb ≤ i0) {xa : Keyed} (hxa : a[na - 1]? = some xa) (hge : ∀ y ∈ b.toList.take nb, nk y ≤ nk xa)
    (hd : ∀ r o, Fin2 a b r → R (.done (some r, o)) st) (hn : ∀ na nb out g ac bc, MH a b out na nb → 0 < na → na ≤ a.size → 1 < nb → nb ≤ b.size → na + nb ≤ i0 → R (.done (none, na, nb, out, g, ac, bc)) st ∧ R (.yield (none, na, nb, out, g, ac, bc)) st) :
    wpS (model prog w) A E s (hi3 a b na nb out g ac bc) R st := by
  unfold hi3
  refine wpS_bind (wpS_elemI hxa ?_)
  obtain ⟨n', rfl⟩ : ∃ n', na = n' + 1 := ⟨na - 1, by omega⟩
  have m2 := m.pushA sa hxa hge
  rw [Nat.add_sub_cancel]
  by_cases c3 : (n' == 0) = true
  · rw [if_pos c3]
    exact wpS_pure (hd _ _ (m2.done sb (beq_iff_eq.mp c3)))
  · rw [if_neg c3]
    have c3' : ¬ n' = 0 := fun z => c3 (beq_iff_eq.mpr z)
    obtain ⟨r1, r2⟩ := hn _ _ _ g ac bc m2 (by omega) (by omega) h2 h2' (by omega)
    split
    · exact wpS_pure r1
    · exact wpS_pure r2
theorem wpS_hi2 {out : Array Keyed} {na nb g ac bc i0 : Nat} {R : ForInStep D7 → SortSt → Prop} (hk : kindOf st = oneType') (Ia : ∀ x ∈ a.toList, IsI x) (Ib : ∀ x ∈ b.toList, IsI x) (sa : Srt a.toList) (sb : Srt b.toList)
    {b0 : Keyed} (hb0 : b[0]? = some b0) (hlow : ∀ y ∈ a.toList, nk b0 < nk y)
    (m : MH a b out na nb) (h1 : 0 < na) (h1' : na ≤ a.size) (h2 : 1 < nb) (h2' : nb ≤ b.size) (h3 : na + nb ≤ i0) {xa xb : Keyed} (hxa : a[na - 1]? = some xa) (hxb : b[nb - 1]? = some xb) (hle : nk xa ≤ nk xb)
    (hd : ∀ r o, Fin2 a b r → R (.done (some r, o)) st) (hn : ∀ na nb out g ac bc, MH a b out na nb → 0 < na → na ≤ a.size → 1 < nb → nb ≤ b.size → na + nb ≤ i0 → R (.done (none, na, nb, out, g, ac, bc)) st ∧ R (.yield (none, na, nb, out, g, ac, bc)) st) :
    wpS (model prog w) A E s (hi2 a b na nb out g ac bc) R st := by
  have hxa' : a.toList[na - 1]? = some xa := by simpa using hxa
  have lowA : ∀ y ∈ a.toList, nk b0 ≤ nk y := fun y hy => Int.le_of_lt (hlow y hy)
  have topA : ∀ y ∈ a.toList.take na, nk y ≤ nk xa := by
    have := sa.tail hxa'
    rw [show na - 1 + 1 = na by omega] at this
    exact this
  unfold hi2
  refine wpS_bind (wpS_elemI hxb ?_)
  obtain ⟨n', rfl⟩ : ∃ n', nb = n' + 1 := ⟨nb - 1, by omega⟩
  have m2 := m.pushB sb hxb fun y hy => Int.le_trans (topA y hy) hle
  rw [Nat.add_sub_cancel]
  by_cases c3 : (n' == 1) = true
  · rw [if_pos c3]
    exact wpS_pure (hd _ _ (m2.first sa hb0 (beq_iff_eq.mp c3) lowA))
  rw [if_neg c3]
  have c3' : ¬ n' = 1 := fun z => c3 (beq_iff_eq.mpr z)
  refine wpS_bind (wpS_elemI hxa ?_)
  refine wpS_bind (wpS_gal hk (Ia xa (mem_at hxa)) Ib (by omega) (fun i j x y _ hij _ hx hy => sb.le_at hij hx hy) (by omega) fun p k1 k2 k3 => ?_)
  dsimp only
  have lower : ∀ i x, i < p → b[i]? = some x → nk x < nk xa := fun i x hi hx => by
    have := k2 i x hi (by rw [Nat.zero_add]; exact hx)
    unfold prB at this
    rw [if_pos rfl] at this
    exact of_decide_eq_true this
  have upper : ∀ i x, p ≤ i → i < n' → b[i]? = some x → nk xa ≤ nk x := fun i x h1 h2 hx => by
    have := k3 i x h1 h2 (by rw [Nat.zero_add]; exact hx)
    unfold prB at this
    rw [if_pos rfl] at this
    exact Int.not_lt.mp (of_decide_eq_false this)
  have p0 : 0 < p := by
    refine Decidable.byContradiction fun hc => ?_
    have h' := upper 0 b0 (by omega) (by omega) hb0
    have := hlow xa (mem_at hxa)
    omega
  have m3 := MH.extB sb (by omega) m2 (n' - p) p (by omega) fun i hi hn => by
    obtain ⟨x, hx⟩ := at_of (a := b) (i := i) (by omega)
    exact ⟨x, hx, fun y hy => Int.le_trans (topA y hy) (upper i x hi hn hx)⟩
  have low : ∀ q, q ≤ p → q ≤ b.size → ∀ y ∈ b.toList.take q, nk y ≤ nk xa := fun q hq hs y hy => by
    obtain ⟨i, hi, e⟩ := List.getElem_of_mem hy
    have hi' : i < q := by rw [List.length_take] at hi; omega
    rw [List.getElem_take] at e
    have hb : b[i]? = some y := by
      have : b.toList[i]? = some y := by rw [List.getElem?_eq_getElem (by rw [List.length_take] at hi; omega), e]
      simpa using this
    exact Int.le_of_lt (lower i y (by omega) hb)
  by_cases hk0 : n' - p > 0
  · rw [if_pos hk0]
    by_cases c4 : (p == 1) = true
    · rw [if_pos c4]
      exact wpS_pure (hd _ _ (m3.first sa hb0 (beq_iff_eq.mp c4) lowA))
    · rw [if_neg c4]
      have c4' : ¬ p = 1 := fun z => c4 (beq_iff_eq.mpr z)
      rw [if_neg (by simp; omega)]
      exact wpS_hi3 sa sb m3 h1 h1' (by omega) (by omega) (by omega) hxa (low p (Nat.le_refl _) (by omega)) hd hn
  · rw [if_neg hk0]
    exact wpS_hi3 sa sb m2 h1 h1' (by omega) (by omega) (by omega) hxa (low n' (by omega) (by omega)) hd hn
theorem wpS_mergeHi {Q : Array Keyed → SortSt → Prop} (hk : kindOf st = oneType') (Ia : ∀ x ∈ a.toList, IsI x) (Ib : ∀ x ∈ b.toList, IsI x) (sa : Srt a.toList) (sb : Srt b.toList) (ha : 0 < a.size) (hb : 0 < b.size)
    {zl b0 : Keyed} (hzl : a[a.size - 1]? = some zl) (hle : ∀ y ∈ b.toList, nk y < nk zl) (hb0 : b[0]? = some b0) (hlow : ∀ y ∈ a.toList, nk b0 < nk y)
    (h : ∀ r st', Fin2 a b r → SG st st' → Q r st') : wpS (model prog w) A E s (mergeHi' a b) Q st := by
  have lowA : ∀ y ∈ a.toList, nk b0 ≤ nk y := fun y hy => Int.le_of_lt (hlow y hy)
  have m0 : MH a b #[] (a.size - 1 + 1) b.size := ⟨by
    rw [List.take_of_length_le (by rw [Array.length_toList]; omega), List.take_of_length_le (by rw [Array.length_toList]; omega)]; simp, List.Pairwise.nil, by simp, by simp⟩
  have m1 : MH a b #[zl] (a.size - 1) b.size := m0.pushA sa hzl fun y hy => Int.le_of_lt (hle y (List.mem_of_mem_take hy))
  unfold mergeHi'
  refine wpS_bind (wpS_lift (wpAny_rule ⟨rfl, ?_⟩))
  dsimp only
  refine wpS_bind (wpS_elemI hzl ?_)
  by_cases c1 : (a.size - 1 == 0) = true
  · rw [if_pos c1]
    exact wpS_pure (h _ _ (m1.done sb (beq_iff_eq.mp c1)) (SG.refl st))
  rw [if_neg c1]
  by_cases c2 : (b.size == 1) = true
  · rw [if_pos c2]
    exact wpS_pure (h _ _ (m1.first sa hb0 (beq_iff_eq.mp c2) lowA) (SG.refl st))
  rw [if_neg c2]
  have c1' : ¬ a.size - 1 = 0 := fun z => c1 (beq_iff_eq.mpr z)
  have c2' : ¬ b.size = 1 := fun z => c2 (beq_iff_eq.mpr z)
  refine wpS_bind (wpS_get ?_)
  refine wpS_bind (wpS_mono (wpS_forRange (I := fun x c st' => SG st st' ∧ ∃ na nb out g, c = (none, na, nb, out, g) ∧ MH a b out na nb ∧ 0 < na ∧ na ≤ a.size ∧ 1 < nb ∧ nb ≤ b.size ∧ na + nb + x + 1 ≤ a.size + b.size)
    (Q := fun c st' => SG st st' ∧ ∃ r, c.1 = some r ∧ Fin2 a b r) ?step ?fin ⟨SG.refl st, a.size - 1, b.size, #[zl], _, rfl, m1, by omega, by omega, by omega, by omega, by omega⟩) ?post)
  case post =>
    rintro ⟨r0, c⟩ st' ⟨g, r, e, f⟩
    dsimp only at e
    subst e
    exact wpS_pure (h r st' f g)
  case fin =>
    rintro c st' ⟨_, na, nb, out, g, rfl, m, h1, h1', h2, h2', h3⟩
    omega
  case step =>
    rintro x c st1 _ hx ⟨sg1, na, nb, out, g, rfl, m, h1, h1', h2, h2', h3⟩
    have hk1 : kindOf st1 = oneType' := sg1.kind.trans hk
    dsimp only
    refine wpS_bind (wpS_mono (wpS_forRange (I := fun y c st' => st' = st1 ∧ ∃ na' nb' out' ac bc, c = (none, na', nb', out', ac, bc) ∧ MH a b out' na' nb' ∧ 0 < na' ∧ na' ≤ a.size ∧ 1 < nb' ∧ nb' ≤ b.size ∧ na' + nb' + y ≤ na + nb)
      (Q := fun c st' => st' = st1 ∧ ((∃ r o, c = (some r, o) ∧ Fin2 a b r) ∨ ∃ na' nb' out' ac bc, c = (none, na', nb', out', ac, bc) ∧ MH a b out' na' nb' ∧ 0 < na' ∧ na' ≤ a.size ∧ 1 < nb' ∧ nb' ≤ b.size ∧ na' + nb' + 1 ≤ na + nb)) ?step1 ?fin1 ⟨rfl, na, nb, out, _, _, rfl, m, h1, h1', h2, h2', by omega⟩) ?post1)
    case fin1 =>
      rintro c st' ⟨rfl, na', nb', out', ac, bc, rfl, m', q1, q1', q2, q2', q3⟩
      exact ⟨rfl, .inr ⟨na', nb', out', ac, bc, rfl, m', q1, q1', q2, q2', by omega⟩⟩
    case step1 =>
      rintro y c st' _ hy ⟨rfl, na', nb', out', ac, bc, rfl, m', q1, q1', q2, q2', q3⟩
      dsimp only
      obtain ⟨xb, hxb⟩ := at_of (show nb' - 1 < b.size by omega)
      obtain ⟨xa, hxa⟩ := at_of (show na' - 1 < a.size by omega)
      have hxa' : a.toList[na' - 1]? = some xa := by simpa using hxa
      have hxb' : b.toList[nb' - 1]? = some xb := by simpa using hxb
      have ta := sa.tail hxa'
      have tb := sb.tail hxb'
      rw [show na' - 1 + 1 = na' by omega] at ta
      rw [show nb' - 1 + 1 = nb' by omega] at tb
      refine wpS_bind (wpS_elemI hxb (wpS_bind (wpS_elemI hxa (wpS_bind (wpS_ltI hk1 (Ib xb (mem_at hxb)) (Ia xa (mem_at hxa)) ?_)))))
      dsimp only
      by_cases hw : nk xb < nk xa
      · rw [decide_eq_true hw, if_pos rfl]
        refine wpS_bind (wpS_elemI hxa ?_)
        obtain ⟨n', rfl⟩ : ∃ n', na' = n' + 1 := ⟨na' - 1, by omega⟩
        have m2 := m'.pushA sa hxa fun z hz => Int.le_trans (tb z hz) (Int.le_of_lt hw)
        rw [Nat.add_sub_cancel]
        by_cases c3 : (n' == 0) = true
        · rw [if_pos c3]
          exact wpS_pure ⟨rfl, .inl ⟨_, _, rfl, m2.done sb (beq_iff_eq.mp c3)⟩⟩
        · rw [if_neg c3]
          have c3' : ¬ n' = 0 := fun z => c3 (beq_iff_eq.mpr z)
          split
          · exact wpS_pure ⟨rfl, .inr ⟨_, _, _, _, _, rfl, m2, by omega, by omega, q2, q2', by omega⟩⟩
          · exact wpS_pure ⟨rfl, _, _, _, _, _, rfl, m2, by omega, by omega, q2, q2', by omega⟩
      · rw [decide_eq_false hw, if_neg (by simp)]
        refine wpS_bind (wpS_elemI hxb ?_)
        obtain ⟨n', rfl⟩ : ∃ n', nb' = n' + 1 := ⟨nb' - 1, by omega⟩
        have m2 := m'.pushB sb hxb fun z hz => Int.le_trans (ta z hz) (Int.not_lt.mp hw)
        rw [Nat.add_sub_cancel]
        by_cases c3 : (n' == 1) = true
        · rw [if_pos c3]
          exact wpS_pure ⟨rfl, .inl ⟨_, _, rfl, m2.first sa hb0 (beq_iff_eq.mp c3) lowA⟩⟩
        · rw [if_neg c3]
          have c3' : ¬ n' = 1 := fun z => c3 (beq_iff_eq.mpr z)
          split
          · exact wpS_pure ⟨rfl, .inr ⟨_, _, _, _, _, rfl, m2, q1, q1', by omega, by omega, by omega⟩⟩
          · exact wpS_pure ⟨rfl, _, _, _, _, _, rfl, m2, q1, q1', by omega, by omega, by omega⟩
    case post1 =>
      rintro c st' ⟨rfl, ⟨r, o, rfl, f⟩ | ⟨na', nb', out', ac, bc, rfl, m', q1, q1', q2, q2', q3⟩⟩
      · exact wpS_pure ⟨sg1, r, rfl, f⟩
      · dsimp only
        refine wpS_bind (wpS_lift (wpAny_rule ⟨rfl, ?_⟩))
        refine wpS_bind (wpS_mono (wpS_forRange (I := fun y c st' => SG st st' ∧ ∃ n2 k2 out2 g2 ac bc, c = (none, n2, k2, out2, g2, ac, bc) ∧ MH a b out2 n2 k2 ∧ 0 < n2 ∧ n2 ≤ a.size ∧ 1 < k2 ∧ k2 ≤ b.size ∧ n2 + k2 ≤ na' + nb')
          (Q := fun c st' => SG st st' ∧ ((∃ r o, c = (some r, o) ∧ Fin2 a b r) ∨ ∃ n2 k2 out2 g2 ac bc, c = (none, n2, k2, out2, g2, ac, bc) ∧ MH a b out2 n2 k2 ∧ 0 < n2 ∧ n2 ≤ a.size ∧ 1 < k2 ∧ k2 ≤ b.size ∧ n2 + k2 ≤ na' + nb')) ?step2 ?fin2 ⟨sg1, na', nb', out', _, _, _, rfl, m', q1, q1', q2, q2', Nat.le_refl _⟩) ?post2)
        case fin2 =>
          rintro c st' ⟨sg, n2, k2, out2, g2, ac, bc, rfl, m2, u⟩
          exact ⟨sg, .inr ⟨n2, k2, out2, g2, ac, bc, rfl, m2, u⟩⟩
        case post2 =>
          rintro c st' ⟨sg, ⟨r, o, rfl, f⟩ | ⟨n2, k2, out2, g2, ac, bc, rfl, m2, u1, u1', u2, u2', u3⟩⟩
          · exact wpS_pure ⟨sg, r, rfl, f⟩
          · dsimp only
            refine wpS_bind (wpS_modify ?_)
            exact wpS_pure ⟨sg.set _, _, _, _, _, rfl, m2, u1, u1', u2, u2', by omega⟩
        case step2 =>
          rintro y c st2 _ hy ⟨sg2, n2, k2, out2, g2, ac, bc, rfl, m2, u1, u1', u2, u2', u3⟩
          have hk2 : kindOf st2 = oneType' := sg2.kind.trans hk
          obtain ⟨xb, hxb⟩ := at_of (show k2 - 1 < b.size by omega)
          have hxb' : b.toList[k2 - 1]? = some xb := by simpa using hxb
          have tb := sb.tail hxb'
          rw [show k2 - 1 + 1 = k2 by omega] at tb
          dsimp only
          have hg := Nat.lt_or_ge 1 g2
          rcases hg with hg | hg
          rw [if_pos hg]
          rotate_left
          rw [if_neg (Nat.not_lt.mpr hg)]
          all_goals
            refine wpS_bind (wpS_modify ?_)
            refine wpS_bind (wpS_elemI hxb ?_)
            refine wpS_bind ?_
            show wpS _ _ _ _ (gallop' false xb a 0 n2 (n2 - 1)) _ _
            refine wpS_gal (lf := false) hk2 (Ib xb (mem_at hxb)) Ia (by omega) (fun i j x y _ hij _ hx hy => sa.le_at hij hx hy) (by omega) fun p k1 k2' k3 => ?_
            dsimp only
            have lower : ∀ i x, i < p → a[i]? = some x → nk x ≤ nk xb := fun i x hi hx => by
              have := k2' i x hi (by rw [Nat.zero_add]; exact hx)
              unfold prB at this
              rw [if_neg (by simp)] at this
              have h' : ¬ nk xb < nk x := by simpa using this
              exact Int.not_lt.mp h'
            have upper : ∀ i x, p ≤ i → i < n2 → a[i]? = some x → nk xb < nk x := fun i x h1 h2 hx => by
              have := k3 i x h1 h2 (by rw [Nat.zero_add]; exact hx)
              unfold prB at this
              rw [if_neg (by simp)] at this
              simpa using this
            have m3 := MH.extA sa u1' m2 (n2 - p) p (by omega) fun i hi hn => by
              obtain ⟨x, hx⟩ := at_of (a := a) (i := i) (by omega)
              exact ⟨x, hx, fun y hy => Int.le_trans (tb y hy) (Int.le_of_lt (upper i x hi hn hx))⟩
            by_cases hk0 : n2 - p > 0
            · rw [if_pos hk0]
              by_cases c5 : (p == 0) = true
              · rw [if_pos c5]
                exact wpS_pure ⟨sg2.set _, .inl ⟨_, _, rfl, m3.done sb (beq_iff_eq.mp c5)⟩⟩
              · rw [if_neg c5]
                have c5' : ¬ p = 0 := fun z => c5 (beq_iff_eq.mpr z)
                obtain ⟨xa, hxa⟩ := at_of (show p - 1 < a.size by omega)
                show wpS _ _ _ _ (hi2 a b p k2 (out2 ++ (a.extract p n2).reverse) _ (n2 - p) bc) _ _
                exact wpS_hi2 (i0 := na' + nb') hk2 Ia Ib sa sb hb0 hlow m3 (by omega) (by omega) u2 u2' (by omega) hxa hxb (lower (p - 1) xa (by omega) hxa) (fun r o f => ⟨sg2.set _, .inl ⟨r, o, rfl, f⟩⟩) fun i j o g c d q1 q2 q3 q4 q5 q6 => ⟨⟨sg2.set _, .inr ⟨_, _, _, _, _, _, rfl, q1, q2, q3, q4, q5, q6⟩⟩, sg2.set _, _, _, _, _, _, _, rfl, q1, q2, q3, q4, q5, q6⟩
            · rw [if_neg hk0]
              have kp : p = n2 := by omega
              obtain ⟨xa, hxa⟩ := at_of (show n2 - 1 < a.size by omega)
              show wpS _ _ _ _ (hi2 a b n2 k2 out2 _ (n2 - p) bc) _ _
              exact wpS_hi2 (i0 := na' + nb') hk2 Ia Ib sa sb hb0 hlow m2 u1 u1' u2 u2' (by omega) hxa hxb (lower (n2 - 1) xa (by omega) hxa) (fun r o f => ⟨sg2.set _, .inl ⟨r, o, rfl, f⟩⟩) fun i j o g c d q1 q2 q3 q4 q5 q6 => ⟨⟨sg2.set _, .inr ⟨_, _, _, _, _, _, rfl, q1, q2, q3, q4, q5, q6⟩⟩, sg2.set _, _, _, _, _, _, _, rfl, q1, q2, q3, q4, q5, q6⟩
end
end SortX
end
section
namespace SortX
open PySem PyProof.Rows
theorem put_list : ∀ (m : List Keyed) (ar : Array Keyed) (sa k : Nat), sa + k + m.length ≤ ar.size → ((m.zipIdx k).foldl (fun a x => a.setIfInBounds (sa + x.2) x.1) ar).toList = ar.toList.take (sa + k) ++ (m ++ ar.toList.drop (sa + k + m.length))
  | [], ar, sa, k, _ => by simp
  | x :: m, ar, sa, k, h => by
    rw [List.zipIdx_cons, List.foldl_cons]
    have hz : (ar.setIfInBounds (sa + k) x).size = ar.size := Array.size_setIfInBounds
    rw [List.length_cons] at h
    rw [put_list m _ sa (k + 1) (by rw [hz]; omega)]
    have e : (ar.setIfInBounds (sa + k) x).toList = ar.toList.set (sa + k) x := Array.toList_setIfInBounds
    have hl : sa + k < ar.toList.length := by rw [Array.length_toList]; omega
    rw [e, show sa + (k + 1) = sa + k + 1 by omega, List.length_cons]
    rw [List.take_succ, List.getElem?_set_self hl, List.take_set_of_le (Nat.le_refl _), List.drop_set_of_lt (by omega)]
    simp [Nat.add_assoc, Nat.add_comm, Nat.add_left_comm]
section
variable {prog : Program} {w : World} {A : Around} {E : Value → Shared → Prop} {s : Shared} {st : SortSt}
theorem ex_mid (a : Array Keyed) (i j : Nat) : (a.extract i j).toList = (a.toList.take j).drop i := by
  rw [Array.toList_extract, List.extract_eq_take_drop, List.take_drop]
  by_cases h : i ≤ j
  · rw [show i + (j - i) = j by omega]
  · rw [show j - i = 0 by omega]
    rw [List.drop_of_length_le (by rw [List.length_take]; omega), List.drop_of_length_le (by rw [List.length_take]; omega)]
theorem wpS_set {σ : Type} {st st1 : σ} {Q : PUnit → σ → Prop} (h : Q ⟨⟩ st1) : wpS (model prog w) A E s (set st1 : StateT σ Sem PUnit) Q st := by
  unfold wpS; rw [StateT.run_set]; exact wpAny_pure ⟨rfl, h⟩
theorem wpS_mergeAt0 {n1 n2 p q : Nat} {Q : Bool → SortSt → Prop} (hk : kindOf st = oneType') (hf : failedOf st = none) (hp : pendingOf st = #[(0, n1, p), (n1, n2, q)]) (sz : (arrOf st).size = n1 + n2) (h1 : 0 < n1) (h2 : 0 < n2)
    (Ii : ∀ x ∈ (arrOf st).toList, IsI x) (s1 : Srt ((arrOf st).toList.take n1)) (s2 : Srt ((arrOf st).toList.drop n1))
    (h : ∀ st', kindOf st' = oneType' → failedOf st' = none → (arrOf st').toList.Perm (arrOf st).toList → Srt (arrOf st').toList → pendingOf st' = #[(0, n1 + n2, p)] → Q true st') : wpS (model prog w) A E s (mergeAt' 0) Q st := by
  obtain ⟨ar, har⟩ : ∃ ar, arrOf st = ar := ⟨_, rfl⟩
  have len : ar.toList.length = n1 + n2 := by rw [Array.length_toList, ← har]; exact sz
  rw [har] at sz Ii s1 s2
  have e1 : ∀ i x, i < n1 → ar[i]? = some x → (ar.toList.take n1)[i]? = some x := fun i x hi hx => by
    rw [List.getElem?_take_of_lt hi]; simpa using hx
  have e2 : ∀ i x, ar[n1 + i]? = some x → (ar.toList.drop n1)[i]? = some x := fun i x hx => by
    rw [List.getElem?_drop]; simpa using hx
  have so1 : ∀ i j x y, i ≤ j → j < n1 → ar[i]? = some x → ar[j]? = some y → nk x ≤ nk y := fun i j x y hij hj hx hy => by
    refine s1.head (e1 i x (by omega) hx) y ?_
    have := e1 j y hj hy
    have h' : ((ar.toList.take n1).drop i)[j - i]? = some y := by rw [List.getElem?_drop, show i + (j - i) = j by omega]; exact this
    exact List.mem_of_getElem? h'
  have so2 : ∀ i j x y, n1 ≤ i → i ≤ j → ar[i]? = some x → ar[j]? = some y → nk x ≤ nk y := fun i j x y hi hij hx hy => by
    have hx' := e2 (i - n1) x (by rw [show n1 + (i - n1) = i by omega]; exact hx)
    have hy' := e2 (j - n1) y (by rw [show n1 + (j - n1) = j by omega]; exact hy)
    refine s2.head hx' y ?_
    have h' : ((ar.toList.drop n1).drop (i - n1))[j - i]? = some y := by rw [List.getElem?_drop, show i - n1 + (j - i) = j - n1 by omega]; exact hy'
    exact List.mem_of_getElem? h'
  unfold mergeAt'
  refine wpS_bind (wpS_get ?_)
  have p0 : (pendingOf st)[0]? = some (0, n1, p) := by rw [hp]; rfl
  have p1 : (pendingOf st)[0 + 1]? = some (n1, n2, q) := by rw [hp]; rfl
  rw [p0, p1]
  dsimp only
  refine wpS_bind (wpS_set ?_)
  have pend : (((pendingOf st).setIfInBounds 0 (0, n1 + n2, p)).eraseIdxIfInBounds (0 + 1)) = #[(0, n1 + n2, p)] := by rw [hp]; simp [Array.eraseIdxIfInBounds, Array.setIfInBounds]
  have same : Srt ar.toList → Q true (SortSt.mk' (kindOf st) (arrOf st) (((pendingOf st).setIfInBounds 0 (0, n1 + n2, p)).eraseIdxIfInBounds (0 + 1)) (gallopOf st) (failedOf st)) := fun hs => h _ hk hf (by rw [har]) (by show Srt (arrOf st).toList; rw [har]; exact hs) pend
  obtain ⟨b0, hb0⟩ := at_of (a := ar) (i := n1) (by omega)
  refine wpS_bind ?_
  show wpS _ _ _ _ (elem' (arrOf st) n1) _ _
  rw [har]
  refine wpS_elemI hb0 (wpS_bind ?_)
  show wpS _ _ _ _ (gallop' false b0 (arrOf st) 0 n1 0) _ _
  rw [har]
  refine wpS_gal (lf := false) (by exact hk) (Ii b0 (mem_at hb0)) Ii (by omega) (fun i j x y _ hij hj hx hy => so1 i j x y hij (by omega) hx hy) h1 fun k k1 k2 k3 => ?_
  dsimp only
  have lowA : ∀ i x, i < k → ar[i]? = some x → nk x ≤ nk b0 := fun i x hi hx => by
    have := k2 i x hi (by rw [Nat.zero_add]; exact hx)
    unfold prB at this
    rw [if_neg (by simp)] at this
    have h' : ¬ nk b0 < nk x := by simpa using this
    exact Int.not_lt.mp h'
  have upA : ∀ i x, k ≤ i → i < n1 → ar[i]? = some x → nk b0 < nk x := fun i x h1 h2 hx => by
    have := k3 i x h1 h2 (by rw [Nat.zero_add]; exact hx)
    unfold prB at this
    rw [if_neg (by simp)] at this
    simpa using this
  have whole : Srt ar.toList ↔ ∀ (i j : Nat) (x y : Keyed), i ≤ j → ar[i]? = some x → ar[j]? = some y → nk x ≤ nk y := by
    constructor
    · intro hs i j x y hij hx hy; exact hs.le_at hij hx hy
    · intro hs
      unfold Srt
      rw [List.pairwise_iff_getElem]
      intro i j hi hj hij
      exact hs i j _ _ (Nat.le_of_lt hij) (by simp) (by simp)
  by_cases c1 : (n1 - k == 0) = true
  · rw [if_pos c1]
    have c1' : k = n1 := by have := beq_iff_eq.mp c1; omega
    refine wpS_pure (same (whole.mpr fun i j x y hij hx hy => ?_))
    by_cases hj : j < n1
    · exact so1 i j x y hij hj hx hy
    · by_cases hi : i < n1
      · exact Int.le_trans (lowA i x (by omega) hx) (so2 n1 j b0 y (Nat.le_refl _) (by omega) hb0 hy)
      · exact so2 i j x y (by omega) hij hx hy
  rw [if_neg c1]
  have c1' : k < n1 := by have : ¬ n1 - k = 0 := fun z => c1 (beq_iff_eq.mpr z); omega
  have el : 0 + k + (n1 - k) - 1 = n1 - 1 := by omega
  obtain ⟨zl, hzl⟩ := at_of (a := ar) (i := n1 - 1) (by omega)
  refine wpS_bind ?_
  show wpS _ _ _ _ (elem' (arrOf st) (0 + k + (n1 - k) - 1)) _ _
  rw [har, el]
  refine wpS_elemI hzl (wpS_bind ?_)
  show wpS _ _ _ _ (gallop' true zl (arrOf st) n1 n2 (n2 - 1)) _ _
  rw [har]
  refine wpS_gal (lf := true) (by exact hk) (Ii zl (mem_at hzl)) Ii (by omega) (fun i j x y hi hij hj hx hy => so2 i j x y hi hij hx hy) (by omega) fun nb b1 b2 b3 => ?_
  dsimp only
  have lowB : ∀ i x, i < nb → ar[n1 + i]? = some x → nk x < nk zl := fun i x hi hx => by
    have := b2 i x hi hx
    unfold prB at this
    rw [if_pos rfl] at this
    exact of_decide_eq_true this
  have upB : ∀ i x, nb ≤ i → i < n2 → ar[n1 + i]? = some x → nk zl ≤ nk x := fun i x h1 h2 hx => by
    have := b3 i x h1 h2 hx
    unfold prB at this
    rw [if_pos rfl] at this
    exact Int.not_lt.mp (of_decide_eq_false this)
  have nb0 : 0 < nb := by
    refine Decidable.byContradiction fun hc => ?_
    have a1 := upB 0 b0 (by omega) h2 hb0
    have a2 := upA (n1 - 1) zl (by omega) (by omega) hzl
    omega
  rw [if_neg (by simp; omega)]
  obtain ⟨xs, hxs⟩ : ∃ xs, ar.extract (0 + k) n1 = xs := ⟨_, rfl⟩
  obtain ⟨ys, hys⟩ : ∃ ys, ar.extract n1 (n1 + nb) = ys := ⟨_, rfl⟩
  have lx : xs.toList = (ar.toList.take n1).drop k := by rw [← hxs, ex_mid, Nat.zero_add]
  have ly : ys.toList = (ar.toList.take (n1 + nb)).drop n1 := by rw [← hys, ex_mid]
  have zx : xs.size = n1 - k := by rw [← Array.length_toList, lx, List.length_drop, List.length_take]; omega
  have zy : ys.size = nb := by rw [← Array.length_toList, ly, List.length_drop, List.length_take]; omega
  have gx : ∀ i, i < n1 - k → xs[i]? = ar[k + i]? := fun i hi => by
    rw [← Array.getElem?_toList, lx, List.getElem?_drop, List.getElem?_take_of_lt (by omega), Array.getElem?_toList]
  have gy : ∀ i, i < nb → ys[i]? = ar[n1 + i]? := fun i hi => by
    rw [← Array.getElem?_toList, ly, List.getElem?_drop, List.getElem?_take_of_lt (by omega), Array.getElem?_toList]
  have sx : Srt xs.toList := by rw [lx]; exact s1.sublist (List.drop_sublist _ _)
  have sy : Srt ys.toList := by
    rw [ly, List.drop_take]
    exact s2.sublist (List.take_sublist _ _)
  have Ix : ∀ x ∈ xs.toList, IsI x := fun x hx => by rw [lx] at hx; exact Ii x (List.mem_of_mem_take (List.mem_of_mem_drop hx))
  have Iy : ∀ x ∈ ys.toList, IsI x := fun x hx => by rw [ly] at hx; exact Ii x (List.mem_of_mem_take (List.mem_of_mem_drop hx))
  have hzx : xs[xs.size - 1]? = some zl := by rw [zx, gx _ (by omega), show k + (n1 - k - 1) = n1 - 1 by omega]; exact hzl
  have hy0 : ys[0]? = some b0 := by rw [gy 0 nb0]; exact hb0
  obtain ⟨a0, ha0⟩ := at_of (a := ar) (i := k) (by omega)
  have hx0 : xs[0]? = some a0 := by rw [gx 0 (by omega)]; exact ha0
  have memx : ∀ x ∈ xs.toList, ∃ i, k ≤ i ∧ i < n1 ∧ ar[i]? = some x := fun x hx => by
    obtain ⟨i, hi, e⟩ := List.getElem_of_mem hx
    rw [Array.length_toList, zx] at hi
    have : xs[i]? = some x := by rw [← Array.getElem?_toList, List.getElem?_eq_getElem (by rw [Array.length_toList, zx]; exact hi), e]
    exact ⟨k + i, by omega, by omega, by rw [← gx i hi]; exact this⟩
  have memy : ∀ x ∈ ys.toList, ∃ i, i < nb ∧ ar[n1 + i]? = some x := fun x hx => by
    obtain ⟨i, hi, e⟩ := List.getElem_of_mem hx
    rw [Array.length_toList, zy] at hi
    have : ys[i]? = some x := by rw [← Array.getElem?_toList, List.getElem?_eq_getElem (by rw [Array.length_toList, zy]; exact hi), e]
    exact ⟨i, hi, by rw [← gy i hi]; exact this⟩
  have hle : ∀ y ∈ ys.toList, nk y < nk zl := fun y hy => by obtain ⟨i, hi, e⟩ := memy y hy; exact lowB i y hi e
  have hlow : ∀ y ∈ xs.toList, nk b0 < nk y := fun y hy => by obtain ⟨i, i1, i2, e⟩ := memx y hy; exact upA i y i1 i2 e
  have fin : ∀ (r : Array Keyed) (st1 : SortSt), Fin2 xs ys r → SG (SortSt.mk' (kindOf st) (arrOf st) (((pendingOf st).setIfInBounds 0 (0, n1 + n2, p)).eraseIdxIfInBounds (0 + 1)) (gallopOf st) (failedOf st)) st1 →
      Q ((failedOf st1).isNone) (SortSt.mk' (kindOf st1) (List.foldl (fun a x => a.setIfInBounds (0 + k + x.2) x.1) (arrOf st1) r.toList.zipIdx) (pendingOf st1) (gallopOf st1) (failedOf st1)) := by
    rintro r st1 ⟨rp, rs⟩ ⟨g, rfl⟩
    have hfn : (failedOf (SortSt.mk' (kindOf st) (arrOf st) (((pendingOf st).setIfInBounds 0 (0, n1 + n2, p)).eraseIdxIfInBounds (0 + 1)) g (failedOf st))).isNone = true := by
      show (failedOf st).isNone = true
      rw [hf]; rfl
    show Q ((failedOf (SortSt.mk' (kindOf st) (arrOf st) (((pendingOf st).setIfInBounds 0 (0, n1 + n2, p)).eraseIdxIfInBounds (0 + 1)) g (failedOf st))).isNone) _
    rw [hfn]
    have lr : r.toList.length = (n1 - k) + nb := by rw [rp.length_eq, List.length_append, Array.length_toList, Array.length_toList, zx, zy]
    have pl := put_list r.toList ar k 0 (by rw [lr]; omega)
    rw [Nat.add_zero, lr, show k + (n1 - k + nb) = n1 + nb by omega] at pl
    have eA : (List.foldl (fun a x => a.setIfInBounds (0 + k + x.2) x.1) (arrOf st) r.toList.zipIdx).toList = ar.toList.take k ++ (r.toList ++ ar.toList.drop (n1 + nb)) := by
      rw [har, Nat.zero_add]; exact pl
    have split : ar.toList = ar.toList.take k ++ ((xs.toList ++ ys.toList) ++ ar.toList.drop (n1 + nb)) := by
      rw [lx, ly]
      have t1 : ar.toList.take n1 = ar.toList.take k ++ (ar.toList.take n1).drop k := by
        have := (List.take_append_drop k (ar.toList.take n1)).symm
        rw [List.take_take, Nat.min_eq_left (by omega)] at this
        exact this
      have t2 : ar.toList.take (n1 + nb) = ar.toList.take n1 ++ (ar.toList.take (n1 + nb)).drop n1 := by
        have := (List.take_append_drop n1 (ar.toList.take (n1 + nb))).symm
        rw [List.take_take, Nat.min_eq_left (by omega)] at this
        exact this
      rw [← List.append_assoc, ← List.append_assoc, ← t1, ← t2, List.take_append_drop]
    refine h _ hk hf ?_ ?_ pend
    · show (List.foldl (fun a x => a.setIfInBounds (0 + k + x.2) x.1) (arrOf st) r.toList.zipIdx).toList.Perm (arrOf st).toList
      rw [eA, har]
      refine List.Perm.trans ?_ (List.Perm.of_eq split.symm)
      exact List.Perm.append_left _ (List.Perm.append_right _ rp)
    · show Srt (List.foldl (fun a x => a.setIfInBounds (0 + k + x.2) x.1) (arrOf st) r.toList.zipIdx).toList
      rw [eA]
      have atk : ∀ x ∈ ar.toList.take k, ∃ i, i < k ∧ ar[i]? = some x := fun x hx => by
        obtain ⟨i, hi, e⟩ := List.getElem_of_mem hx
        have hi' : i < k := by rw [List.length_take] at hi; omega
        rw [List.getElem_take] at e
        exact ⟨i, hi', by rw [← Array.getElem?_toList, List.getElem?_eq_getElem (by omega), e]⟩
      have atd : ∀ x ∈ ar.toList.drop (n1 + nb), ∃ i, n1 + nb ≤ i ∧ i < n1 + n2 ∧ ar[i]? = some x := fun x hx => by
        obtain ⟨i, hi, e⟩ := List.getElem_of_mem hx
        rw [List.length_drop, len] at hi
        rw [List.getElem_drop] at e
        exact ⟨n1 + nb + i, by omega, by omega, by rw [← Array.getElem?_toList, List.getElem?_eq_getElem (by omega), e]⟩
      have mr : ∀ x ∈ r.toList, x ∈ xs.toList ∨ x ∈ ys.toList := fun x hx => List.mem_append.mp (rp.mem_iff.mp hx)
      unfold Srt
      rw [List.pairwise_append, List.pairwise_append]
      refine ⟨?_, ⟨rs, ?_, fun u hu v hv => ?_⟩, fun u hu v hv => ?_⟩
      · have : Srt ((ar.toList.take n1).take k) := s1.sublist (List.take_sublist _ _)
        rw [List.take_take, Nat.min_eq_left (by omega)] at this
        exact this
      · have : Srt ((ar.toList.drop n1).drop nb) := s2.sublist (List.drop_sublist _ _)
        rw [List.drop_drop] at this
        exact this
      · obtain ⟨j, j1, j2, ej⟩ := atd v hv
        rcases mr u hu with z | z
        · obtain ⟨i, i1, i2, ei⟩ := memx u z
          have q1 := so1 i (n1 - 1) u zl (by omega) (by omega) ei hzl
          have q2 := upB (j - n1) v (by omega) (by omega) (by rw [show n1 + (j - n1) = j by omega]; exact ej)
          exact Int.le_trans q1 q2
        · obtain ⟨i, i1, ei⟩ := memy u z
          exact so2 (n1 + i) j u v (by omega) (by omega) ei ej
      · obtain ⟨i, i1, ei⟩ := atk u hu
        rcases List.mem_append.mp hv with z | z
        · rcases mr v z with y | y
          · obtain ⟨j, j1, j2, ej⟩ := memx v y
            exact so1 i j u v (by omega) j2 ei ej
          · obtain ⟨j, j1, ej⟩ := memy v y
            exact Int.le_trans (lowA i u i1 ei) (so2 n1 (n1 + j) b0 v (Nat.le_refl _) (by omega) hb0 ej)
        · obtain ⟨j, j1, j2, ej⟩ := atd v z
          exact Int.le_trans (lowA i u i1 ei) (so2 n1 j b0 v (Nat.le_refl _) (by omega) hb0 ej)
  by_cases c3 : n1 - k ≤ nb
  · rw [if_pos c3]
    refine wpS_bind ?_
    show wpS _ _ _ _ (mergeLo' ((arrOf st).extract (0 + k) n1) ((arrOf st).extract n1 (n1 + nb))) _ _
    rw [har, hxs, hys]
    refine wpS_mergeLo (by exact hk) Ix Iy sx sy (by omega) (by omega) hzx hle hy0 hx0 (upA k a0 (Nat.le_refl _) c1' ha0) fun r st1 f g => ?_
    refine wpS_bind (wpS_modify (wpS_bind (wpS_get (wpS_pure ?_))))
    exact fin r st1 f g
  · rw [if_neg c3]
    refine wpS_bind ?_
    show wpS _ _ _ _ (mergeHi' ((arrOf st).extract (0 + k) n1) ((arrOf st).extract n1 (n1 + nb))) _ _
    rw [har, hxs, hys]
    refine wpS_mergeHi (by exact hk) Ix Iy sx sy (by omega) (by omega) hzx hle hy0 hlow fun r st1 f g => ?_
    refine wpS_bind (wpS_modify (wpS_bind (wpS_get (wpS_pure ?_))))
    exact fin r st1 f g
end
end SortX
end
section
namespace SortX
open PySem PyProof.Rows
structure Base (a₀ : Array Keyed) : Prop where
  allI : ∀ x ∈ a₀.toList, IsI x
  nd : (a₀.toList.map nk).Nodup
structure SX (a₀ : Array Keyed) (lo : Nat) (st0 st : SortSt) : Prop where
  perm : (arrOf st).toList.Perm a₀.toList
  kind : kindOf st = oneType'
  failed : failedOf st = none
  pend : pendingOf st = pendingOf st0
  pre : ∀ i, i < lo → (arrOf st)[i]? = (arrOf st0)[i]?
def Seg (xs : Array Keyed) (lo hi : Nat) : Prop := ∀ i j, lo ≤ i → i < j → j < hi → K xs i < K xs j
def DSeg (xs : Array Keyed) (lo hi : Nat) : Prop := ∀ i j, lo ≤ i → i < j → j < hi → K xs j < K xs i
theorem K_at {xs : Array Keyed} {i : Nat} {x : Keyed} (h : xs[i]? = some x) : K xs i = nk x := by unfold K; rw [h]; rfl
theorem K_congr' {xs ys : Array Keyed} {i j : Nat} (h : xs[i]? = ys[j]?) : K xs i = K ys j := by unfold K; rw [h]
section
variable {a₀ : Array Keyed} {lo : Nat} {st0 st : SortSt}
theorem SX.size (h : SX a₀ lo st0 st) : (arrOf st).size = a₀.size := by rw [← Array.length_toList, h.perm.length_eq, Array.length_toList]
theorem SX.isI (h : SX a₀ lo st0 st) (B : Base a₀) {i : Nat} {x : Keyed} (hx : (arrOf st)[i]? = some x) : IsI x := B.allI x (h.perm.mem_iff.mp (mem_at hx))
theorem SX.ne (h : SX a₀ lo st0 st) (B : Base a₀) {i j : Nat} (hij : i < j) (hj : j < a₀.size) : K (arrOf st) i ≠ K (arrOf st) j := by
  have nd : ((arrOf st).toList.map nk).Nodup := (h.perm.map nk).nodup_iff.mpr B.nd
  have hz := h.size
  obtain ⟨x, hx⟩ := at_of (a := arrOf st) (i := i) (by omega)
  obtain ⟨y, hy⟩ := at_of (a := arrOf st) (i := j) (by omega)
  rw [K_at hx, K_at hy]
  have li : i < ((arrOf st).toList.map nk).length := by rw [List.length_map, Array.length_toList]; omega
  have lj : j < ((arrOf st).toList.map nk).length := by rw [List.length_map, Array.length_toList]; omega
  have := List.pairwise_iff_getElem.mp nd i j li lj hij
  intro e
  refine this ?_
  have ex : ((arrOf st).toList.map nk)[i]? = some (nk x) := by rw [List.getElem?_map, Array.getElem?_toList, hx]; rfl
  have ey : ((arrOf st).toList.map nk)[j]? = some (nk y) := by rw [List.getElem?_map, Array.getElem?_toList, hy]; rfl
  rw [List.getElem?_eq_getElem li] at ex
  rw [List.getElem?_eq_getElem lj] at ey
  rw [Option.some.inj ex, Option.some.inj ey, e]
theorem SX.put (h : SX a₀ lo st0 st) {xs : Array Keyed} (hp : xs.Perm (arrOf st)) (hl : ∀ i, i < lo → xs[i]? = (arrOf st)[i]?) : SX a₀ lo st0 (setArr st xs) :=
  ⟨(Array.perm_iff_toList_perm.mp hp).trans h.perm, h.kind, h.failed, h.pend, fun i hi => (hl i hi).trans (h.pre i hi)⟩
end
section
variable {prog : Program} {w : World} {A : Around} {E : Value → Shared → Prop} {s : Shared} {a₀ : Array Keyed} {lo : Nat} {st0 st : SortSt}
theorem wpS_ltX {i j : Nat} {Q : Option Bool → SortSt → Prop} (B : Base a₀) (hS : SX a₀ lo st0 st) (hi : i < a₀.size) (hj : j < a₀.size) (h : Q (some (decide (K (arrOf st) i < K (arrOf st) j))) st) : wpS (model prog w) A E s (ltAt' i j) Q st := by
  have hz := hS.size
  obtain ⟨x, hx⟩ := at_of (a := arrOf st) (i := i) (by omega)
  obtain ⟨y, hy⟩ := at_of (a := arrOf st) (i := j) (by omega)
  rw [K_at hx, K_at hy] at h
  rw [ltAt'_eq]
  refine wpS_bind (wpS_get ?_)
  refine wpS_bind (wpS_elemI hx (wpS_bind (wpS_elemI hy ?_)))
  exact wpS_ltI hS.kind (hS.isI B hx) (hS.isI B hy) h
abbrev A2 := Option (Option Nat) × Nat
def ascX (lo a nrem : Nat) : StateT SortSt Sem A2 :=
  forIn [a:nrem] ((none, a) : A2) fun _ c => do
    match ← ltAt' (lo + c.2) (lo + c.2 - 1) with
    | some sm => if sm = true then pure (.done (none, c.2)) else pure (.yield (none, c.2 + 1))
    | _ => pure (.done (some none, c.2))
theorem wpS_ascX {a nrem : Nat} {Q : A2 → SortSt → Prop} (B : Base a₀) (hS : SX a₀ lo st0 st) (hn : lo + nrem ≤ a₀.size) (ha : 1 ≤ a) (han : a ≤ nrem) (hs : Seg (arrOf st) lo (lo + a))
    (h : ∀ m, a ≤ m → m ≤ nrem → Seg (arrOf st) lo (lo + m) → (m = nrem ∨ (m < nrem ∧ K (arrOf st) (lo + m) < K (arrOf st) (lo + m - 1))) → Q (none, m) st) : wpS (model prog w) A E s (ascX lo a nrem) Q st := by
  unfold ascX
  refine wpS_forRange (I := fun x c st' => st' = st ∧ c = (none, x) ∧ Seg (arrOf st) lo (lo + x)) ?step ?fin ⟨rfl, rfl, hs⟩
  case fin =>
    rintro c st' ⟨rfl, rfl, q⟩
    rw [Nat.max_eq_right han] at q ⊢
    exact h nrem han (Nat.le_refl _) q (.inl rfl)
  case step =>
    rintro x c st' hx1 hx2 ⟨rfl, rfl, q⟩
    dsimp only
    refine wpS_bind (wpS_ltX B hS (by omega) (by omega) ?_)
    dsimp only
    by_cases hlt : K (arrOf st') (lo + x) < K (arrOf st') (lo + x - 1)
    · rw [decide_eq_true hlt, if_pos rfl]
      exact wpS_pure (h x hx1 (by omega) q (.inr ⟨hx2, hlt⟩))
    · rw [decide_eq_false hlt, if_neg (by simp)]
      refine wpS_pure ⟨rfl, rfl, fun i j h1 h2 h3 => ?_⟩
      by_cases hj : j < lo + x
      · exact q i j h1 h2 hj
      · have ej : j = lo + x := by omega
        subst ej
        have d := hS.ne B (show lo + x - 1 < lo + x by omega) (by omega)
        have e1 : K (arrOf st') (lo + x - 1) < K (arrOf st') (lo + x) := by omega
        by_cases hi : i = lo + x - 1
        · rw [hi]; exact e1
        · exact Int.lt_trans (q i (lo + x - 1) h1 (by omega) (by omega)) e1
theorem wpS_countRunX {nrem : Nat} {Q : Option Nat → SortSt → Prop} (B : Base a₀) (hS : SX a₀ lo st0 st) (hn : lo + nrem ≤ a₀.size) (h1 : 1 ≤ nrem)
    (h : ∀ m st', SX a₀ lo st0 st' → 1 ≤ m → m ≤ nrem → Seg (arrOf st') lo (lo + m) → Q (some m) st') : wpS (model prog w) A E s (countRun' lo nrem) Q st := by
  unfold countRun'
  refine wpS_bind ?_
  show wpS _ _ _ _ (ascX lo 1 nrem) _ _
  refine wpS_ascX B hS hn (Nat.le_refl _) h1 (fun i j a b c => by omega) fun m m1 m2 q hor => ?_
  dsimp only
  by_cases c1 : (m == nrem) = true
  · rw [if_pos c1]
    exact wpS_pure (h m st hS m1 m2 q)
  rw [if_neg c1]
  have c1' : ¬ m = nrem := fun z => c1 (beq_iff_eq.mpr z)
  by_cases c2 : m > 1
  · rw [if_pos c2]
    refine wpS_bind ?_
    show wpS _ _ _ _ (ltAt' lo (lo + m - 1)) _ _
    refine wpS_ltX B hS (by omega) (by omega) ?_
    dsimp only
    rw [decide_eq_true (q lo (lo + m - 1) (Nat.le_refl _) (by omega) (by omega)), if_pos rfl]
    exact wpS_pure (h m st hS m1 m2 q)
  · rw [if_neg c2]
    have em : m = 1 := by omega
    subst em
    obtain ⟨_, hlt⟩ := hor.resolve_left c1'
    refine wpS_bind (wpS_lift (wpAny_rule ⟨rfl, ?_⟩))
    refine wpS_bind (wpS_mono (wpS_forRange (I := fun x c st' => st' = st ∧ c = (none, x, 0) ∧ DSeg (arrOf st) lo (lo + x)) (Q := fun c st' => st' = st ∧ ∃ x, c = (none, x, 0) ∧ 2 ≤ x ∧ x ≤ nrem ∧ DSeg (arrOf st) lo (lo + x)) ?step ?fin ⟨rfl, rfl, fun i j a b c => ?init⟩) ?post)
    case init =>
      have ei : i = lo := by omega
      have ej : j = lo + 1 := by omega
      rw [ei, ej]
      rw [show lo + 1 - 1 = lo by omega] at hlt
      exact hlt
    case fin =>
      rintro c st' ⟨rfl, rfl, d⟩
      rw [Nat.max_eq_right (by omega)] at d ⊢
      exact ⟨rfl, nrem, rfl, by omega, Nat.le_refl _, d⟩
    case step =>
      rintro x c st' hx1 hx2 ⟨rfl, rfl, d⟩
      dsimp only
      refine wpS_bind ?_
      show wpS _ _ _ _ (ltAt' (lo + x) (lo + x - 1)) _ _
      refine wpS_ltX B hS (by omega) (by omega) ?_
      dsimp only
      by_cases hl2 : K (arrOf st') (lo + x) < K (arrOf st') (lo + x - 1)
      · rw [decide_eq_true hl2, if_pos rfl, if_neg (by omega)]
        refine wpS_pure ⟨rfl, rfl, fun i j a b c => ?_⟩
        by_cases hj : j < lo + x
        · exact d i j a b hj
        · have ej : j = lo + x := by omega
          subst ej
          by_cases hi : i = lo + x - 1
          · rw [hi]; exact hl2
          · exact Int.lt_trans hl2 (d i (lo + x - 1) a (by omega) (by omega))
      · rw [decide_eq_false hl2, if_neg (by simp)]
        refine wpS_bind ?_
        show wpS _ _ _ _ (ltAt' (lo + x - 1) (lo + x)) _ _
        refine wpS_ltX B hS (by omega) (by omega) ?_
        dsimp only
        have dd := hS.ne B (show lo + x - 1 < lo + x by omega) (by omega)
        rw [decide_eq_true (show K (arrOf st') (lo + x - 1) < K (arrOf st') (lo + x) by omega), if_pos rfl]
        exact wpS_pure ⟨rfl, x, rfl, hx1, by omega, d⟩
    case post =>
      rintro c st' ⟨rfl, x, rfl, x1, x2, d⟩
      dsimp only
      rw [if_neg (by omega)]
      refine wpS_bind ?_
      show wpS _ _ _ _ (reverseSlice' lo (lo + x)) _ _
      rw [reverseSlice'_eq]
      refine wpS_modify ?_
      have hz := hS.size
      have gm := getElem?_mirror_all (xs := arrOf st') (i := lo) (j := lo + x) (by omega)
      have S2 : SX a₀ lo st0 (setArr st' (mirror (arrOf st') lo (lo + x) ((lo + x - lo) / 2))) := hS.put (mirror_perm _ _ _ _) fun i hi => by rw [gm, if_neg (by omega)]
      have up : Seg (arrOf (setArr st' (mirror (arrOf st') lo (lo + x) ((lo + x - lo) / 2)))) lo (lo + x) := fun i j a b c => by
        show K (mirror (arrOf st') lo (lo + x) ((lo + x - lo) / 2)) i < K (mirror (arrOf st') lo (lo + x) ((lo + x - lo) / 2)) j
        rw [K_congr' (show (mirror (arrOf st') lo (lo + x) ((lo + x - lo) / 2))[i]? = (arrOf st')[lo + (lo + x) - 1 - i]? by rw [gm, if_pos (by omega)]), K_congr' (show (mirror (arrOf st') lo (lo + x) ((lo + x - lo) / 2))[j]? = (arrOf st')[lo + (lo + x) - 1 - j]? by rw [gm, if_pos (by omega)])]
        exact d _ _ (by omega) (by omega) (by omega)
      refine wpS_bind ?_
      show wpS _ _ _ _ (ascX lo x nrem) _ _
      refine wpS_ascX B S2 hn (by omega) x2 up fun m m1 m2 q _ => ?_
      exact wpS_pure (h m _ S2 (by omega) m2 q)
theorem wpS_binX {n ok : Nat} {Q : Bool → SortSt → Prop} (B : Base a₀) (hS : SX a₀ lo st0 st) (hn : lo + n ≤ a₀.size) (h1 : 1 ≤ ok) (hok : ok ≤ n) (hs : Seg (arrOf st) lo (lo + ok))
    (h : ∀ st', SX a₀ lo st0 st' → Seg (arrOf st') lo (lo + n) → Q true st') : wpS (model prog w) A E s (binarySort' lo n ok) Q st := by
  unfold binarySort'
  refine wpS_bind (wpS_mono (wpS_forRange (I := fun k c st' => c = (none, ()) ∧ SX a₀ lo st0 st' ∧ Seg (arrOf st') lo (lo + k)) (Q := fun c st' => c = (none, ()) ∧ SX a₀ lo st0 st' ∧ Seg (arrOf st') lo (lo + n)) ?step ?fin ⟨rfl, hS, by rw [Nat.max_eq_left h1]; exact hs⟩) ?post)
  case post =>
    rintro c st' ⟨rfl, a, b⟩
    exact wpS_pure (h st' a b)
  case fin =>
    rintro c st' ⟨rfl, a, b⟩
    rw [show max (max ok 1) n = n by omega] at b
    exact ⟨rfl, a, b⟩
  case step =>
    rintro k c st1 hk1 hk2 ⟨rfl, S1, sg⟩
    have hz := S1.size
    dsimp only
    refine wpS_bind (wpS_mono (wpS_forRange (I := fun x c st' => st' = st1 ∧ ∃ l r, c = (none, l, r) ∧ l ≤ r ∧ r ≤ k ∧ r - l ≤ k - x ∧ (∀ i, i < l → K (arrOf st1) (lo + i) < K (arrOf st1) (lo + k)) ∧ ∀ i, r ≤ i → i < k → K (arrOf st1) (lo + k) < K (arrOf st1) (lo + i))
      (Q := fun c st' => st' = st1 ∧ ∃ l, c = (none, l, l) ∧ l ≤ k ∧ (∀ i, i < l → K (arrOf st1) (lo + i) < K (arrOf st1) (lo + k)) ∧ ∀ i, l ≤ i → i < k → K (arrOf st1) (lo + k) < K (arrOf st1) (lo + i)) ?step2 ?fin2 ⟨rfl, 0, k, rfl, by omega, by omega, by omega, fun i hi => by omega, fun i a b => by omega⟩) ?post2)
    case fin2 =>
      rintro c st' ⟨rfl, l, r, rfl, a1, a2, a3, a4, a5⟩
      have e : l = r := by omega
      subst e
      exact ⟨rfl, l, rfl, a2, a4, a5⟩
    case step2 =>
      rintro x c st' _ hx ⟨rfl, l, r, rfl, a1, a2, a3, a4, a5⟩
      dsimp only
      by_cases hlr : l ≥ r
      · rw [if_pos hlr]
        have e : l = r := by omega
        subst e
        exact wpS_pure ⟨rfl, l, rfl, a2, a4, a5⟩
      · rw [if_neg hlr]
        refine wpS_bind ?_
        show wpS _ _ _ _ (ltAt' (lo + k) (lo + (l + r) / 2)) _ _
        refine wpS_ltX B S1 (by omega) (by omega) ?_
        dsimp only
        by_cases hlt : K (arrOf st') (lo + k) < K (arrOf st') (lo + (l + r) / 2)
        · rw [decide_eq_true hlt, if_pos rfl]
          refine wpS_pure ⟨rfl, _, _, rfl, by omega, by omega, by omega, a4, fun i hi hn => ?_⟩
          by_cases hm : i = (l + r) / 2
          · rw [hm]; exact hlt
          · exact Int.lt_trans hlt (sg (lo + (l + r) / 2) (lo + i) (by omega) (by omega) (by omega))
        · rw [decide_eq_false hlt, if_neg (by simp)]
          have dd := S1.ne B (show lo + (l + r) / 2 < lo + k by omega) (by omega)
          have hgt : K (arrOf st') (lo + (l + r) / 2) < K (arrOf st') (lo + k) := by omega
          refine wpS_pure ⟨rfl, _, _, rfl, by omega, a2, by omega, fun i hi => ?_, a5⟩
          by_cases hm : i = (l + r) / 2
          · rw [hm]; exact hgt
          · exact Int.lt_trans (sg (lo + i) (lo + (l + r) / 2) (by omega) (by omega) (by omega)) hgt
    case post2 =>
      rintro c st' ⟨rfl, l, rfl, a2, a4, a5⟩
      dsimp only
      refine wpS_bind ?_
      show wpS _ _ _ _ (moveDown' (lo + k) (lo + l)) _ _
      rw [moveDown'_eq]
      refine wpS_modify (wpS_pure ?_)
      have gb := getElem?_bubble (xs := arrOf st') (src := lo + k) (by omega) (lo + k - (lo + l)) (by omega)
      have ed : lo + k - (lo + k - (lo + l)) = lo + l := by omega
      rw [ed] at gb
      refine ⟨rfl, S1.put (bubble_perm _ _ _) fun i hi => by rw [gb, if_neg (by omega), if_neg (by omega)], fun i j b1 b2 b3 => ?_⟩
      show K (bubble (arrOf st') (lo + k) (lo + k - (lo + l))) i < K (bubble (arrOf st') (lo + k) (lo + k - (lo + l))) j
      have val : ∀ i, lo ≤ i → i < lo + (k + 1) → K (bubble (arrOf st') (lo + k) (lo + k - (lo + l))) i = (if i = lo + l then K (arrOf st') (lo + k) else if lo + l < i then K (arrOf st') (i - 1) else K (arrOf st') i) := fun i c1 c2 => by
        by_cases e1 : i = lo + l
        · rw [if_pos e1]; exact K_congr' (by rw [gb, if_pos e1])
        · rw [if_neg e1]
          by_cases e2 : lo + l < i
          · rw [if_pos e2]; exact K_congr' (by rw [gb, if_neg e1, if_pos ⟨e2, by omega⟩])
          · rw [if_neg e2]; exact K_congr' (by rw [gb, if_neg e1, if_neg (by omega)])
      rw [val i b1 (by omega), val j (by omega) b3]
      by_cases i1 : i = lo + l
      · rw [if_pos i1, if_neg (by omega), if_pos (by omega)]
        have := a5 (j - 1 - lo) (by omega) (by omega)
        rw [show lo + (j - 1 - lo) = j - 1 by omega] at this
        exact this
      · rw [if_neg i1]
        by_cases j1 : j = lo + l
        · rw [if_pos j1, if_neg (by omega)]
          have := a4 (i - lo) (by omega)
          rw [show lo + (i - lo) = i by omega] at this
          exact this
        · rw [if_neg j1]
          by_cases i2 : lo + l < i
          · rw [if_pos i2, if_pos (by omega)]
            exact sg (i - 1) (j - 1) (by omega) (by omega) (by omega)
          · rw [if_neg i2]
            by_cases j2 : lo + l < j
            · rw [if_pos j2]
              by_cases jj : j - 1 = i
              · omega
              · exact sg i (j - 1) b1 (by omega) (by omega)
            · rw [if_neg j2]
              exact sg i j b1 b2 (by omega)
end
end SortX
end
section
namespace SortX
open PySem PyProof.Rows
structure Gd (a₀ : Array Keyed) (st : SortSt) : Prop where
  perm : (arrOf st).toList.Perm a₀.toList
  kind : kindOf st = oneType'
  failed : failedOf st = none
theorem Gd.size {a₀ : Array Keyed} {st : SortSt} (h : Gd a₀ st) : (arrOf st).size = a₀.size := by rw [← Array.length_toList, h.perm.length_eq, Array.length_toList]
theorem Gd.sx {a₀ : Array Keyed} {st : SortSt} (h : Gd a₀ st) (lo : Nat) : SX a₀ lo st st := ⟨h.perm, h.kind, h.failed, rfl, fun _ _ => rfl⟩
theorem seg_take {xs : Array Keyed} {n : Nat} (h : Seg xs 0 n) (hn : n ≤ xs.size) : Srt (xs.toList.take n) := by
  unfold Srt
  rw [List.pairwise_iff_getElem]
  intro i j hi hj hij
  rw [List.length_take] at hi hj
  have ei : xs[i]? = some ((xs.toList.take n)[i]'(by rw [List.length_take]; exact hi)) := by
    rw [List.getElem_take, ← Array.getElem?_toList, List.getElem?_eq_getElem]
  have ej : xs[j]? = some ((xs.toList.take n)[j]'(by rw [List.length_take]; exact hj)) := by
    rw [List.getElem_take, ← Array.getElem?_toList, List.getElem?_eq_getElem]
  have := h i j (Nat.zero_le _) hij (by omega)
  rw [K_at ei, K_at ej] at this
  exact Int.le_of_lt this
theorem seg_drop {xs : Array Keyed} {n : Nat} (h : Seg xs n xs.size) : Srt (xs.toList.drop n) := by
  unfold Srt
  rw [List.pairwise_iff_getElem]
  intro i j hi hj hij
  rw [List.length_drop, Array.length_toList] at hi hj
  have ei : xs[n + i]? = some ((xs.toList.drop n)[i]'(by rw [List.length_drop, Array.length_toList]; exact hi)) := by
    rw [List.getElem_drop, ← Array.getElem?_toList, List.getElem?_eq_getElem]
  have ej : xs[n + j]? = some ((xs.toList.drop n)[j]'(by rw [List.length_drop, Array.length_toList]; exact hj)) := by
    rw [List.getElem_drop, ← Array.getElem?_toList, List.getElem?_eq_getElem]
  have := h (n + i) (n + j) (by omega) (by omega) (by omega)
  rw [K_at ei, K_at ej] at this
  exact Int.le_of_lt this
theorem seg_pre {xs ys : Array Keyed} {n : Nat} (h : Seg xs 0 n) (e : ∀ i, i < n → ys[i]? = xs[i]?) : Seg ys 0 n := fun i j a b c => by
  rw [K_congr' (e i (by omega)), K_congr' (e j c)]; exact h i j a b c
def Two (a₀ : Array Keyed) (st : SortSt) : Prop := ∃ n1 pw, 0 < n1 ∧ n1 < a₀.size ∧ pendingOf st = #[(0, n1, pw), (n1, a₀.size - n1, 0)] ∧ Seg (arrOf st) 0 n1 ∧ Seg (arrOf st) n1 a₀.size
theorem minRun_two {n : Nat} (h1 : 64 ≤ n) (h2 : n < 128) : (sortPriv% PySem.Builtin.minRun : Nat → Nat → Nat → Nat) n n 0 = n / 2 + n % 2 := by
  show minRun' n n 0 = _
  obtain ⟨f, rfl⟩ : ∃ f, n = f + 1 + 1 := ⟨n - 2, by omega⟩
  rw [minRun'_succ, if_neg (by omega), minRun'_succ, if_pos (by omega)]
  omega
section
variable {prog : Program} {w : World} {A : Around} {E : Value → Shared → Prop} {s : Shared} {a₀ : Array Keyed} {st : SortSt}
theorem wpS_sortRunsX {Q : Unit → SortSt → Prop} (B : Base a₀) (G : Gd a₀ st) (hp : pendingOf st = #[]) (h64 : 64 ≤ a₀.size) (h128 : a₀.size < 128)
    (h : ∀ st', (arrOf st').toList.Perm a₀.toList → failedOf st' = none → Srt (arrOf st').toList → Q () st') : wpS (model prog w) A E s sortRuns' Q st := by
  have hsz : (arrOf st).size = a₀.size := G.size
  unfold sortRuns'
  refine wpS_bind (wpS_get ?_)
  dsimp only
  rw [hsz, minRun_two h64 h128]
  obtain ⟨mr, hmr⟩ : ∃ mr, a₀.size / 2 + a₀.size % 2 = mr := ⟨_, rfl⟩
  rw [hmr]
  refine wpS_bind (wpS_mono (wpS_forRange (I := fun x c st' => Gd a₀ st' ∧ ∃ lo, c = (none, lo) ∧ ((x = 0 ∧ lo = 0 ∧ pendingOf st' = #[]) ∨ (x = 1 ∧ mr ≤ lo ∧ lo ≤ a₀.size ∧ pendingOf st' = #[(0, lo, 0)] ∧ Seg (arrOf st') 0 lo) ∨ (x = 2 ∧ lo = a₀.size ∧ Two a₀ st')))
    (Q := fun c st' => Gd a₀ st' ∧ c.1 = none ∧ ((pendingOf st' = #[(0, a₀.size, 0)] ∧ Seg (arrOf st') 0 a₀.size) ∨ Two a₀ st')) ?step ?fin ⟨G, 0, rfl, .inl ⟨rfl, rfl, hp⟩⟩) ?post)
  case fin =>
    rintro c st' ⟨_, lo, rfl, ⟨z, _⟩ | ⟨z, _⟩ | ⟨z, _⟩⟩ <;> omega
  case post =>
    rintro ⟨c1, c2⟩ st1 ⟨G1, e, hor⟩
    dsimp only at e
    subst e
    dsimp only
    refine wpS_bind (wpS_mono (wpS_forRange (I := fun x c st' => c = (none, ()) ∧ Gd a₀ st' ∧ (((∃ r, pendingOf st' = #[r]) ∧ Srt (arrOf st').toList) ∨ (x = 0 ∧ Two a₀ st')))
      (Q := fun c st' => c = (none, ()) ∧ Gd a₀ st' ∧ Srt (arrOf st').toList) ?step2 ?fin2 ?init2) ?post2)
    case init2 =>
      refine ⟨rfl, G1, ?_⟩
      rcases hor with ⟨p, sg⟩ | t
      · refine .inl ⟨⟨_, p⟩, ?_⟩
        have := seg_take sg (by rw [G1.size]; exact Nat.le_refl _)
        rwa [List.take_of_length_le (by rw [Array.length_toList, G1.size]; exact Nat.le_refl _)] at this
      · exact .inr ⟨rfl, t⟩
    case fin2 =>
      rintro c st' ⟨rfl, g, ⟨_, s1⟩ | ⟨z, _⟩⟩
      · exact ⟨rfl, g, s1⟩
      · omega
    case post2 =>
      rintro c st' ⟨rfl, g, s1⟩
      exact wpS_pure (h st' g.perm g.failed s1)
    case step2 =>
      rintro x c st' _ hx ⟨rfl, g, ⟨⟨r, p⟩, s1⟩ | ⟨rfl, n1, pw, n0, n2, p, sg1, sg2⟩⟩
      · refine wpS_bind (wpS_get ?_)
        have pz : (pendingOf st').size ≤ 1 := by rw [p]; exact Nat.le_refl _
        rw [if_pos pz]
        exact wpS_pure ⟨rfl, g, s1⟩
      · refine wpS_bind (wpS_get ?_)
        have pz : (pendingOf st').size = 2 := by rw [p]; rfl
        rw [if_neg (show ¬ (pendingOf st').size ≤ 1 by omega)]
        rw [show (pendingOf st').size - 2 = 0 by omega]
        refine wpS_bind ?_
        show wpS _ _ _ _ (mergeAt' 0) _ _
        have gz := g.size
        refine wpS_mergeAt0 g.kind g.failed p (by omega) n0 (by omega) (fun x hx => B.allI x (g.perm.mem_iff.mp hx)) (seg_take sg1 (by omega)) (seg_drop (by rw [gz]; exact sg2)) fun st2 k2 f2 p2 s2 pd2 => ?_
        rw [if_neg (by simp)]
        exact wpS_pure ⟨rfl, ⟨p2.trans g.perm, k2, f2⟩, .inl ⟨⟨_, pd2⟩, s2⟩⟩
  case step =>
    rintro x c st1 _ hx ⟨G1, lo, rfl, ⟨rfl, rfl, p1⟩ | ⟨rfl, l1, l2, p1, sg1⟩ | ⟨rfl, rfl, t⟩⟩
    · dsimp only
      rw [if_neg (show ¬ 0 ≥ a₀.size by omega)]
      refine wpS_bind ?_
      show wpS _ _ _ _ (countRun' 0 (a₀.size - 0)) _ _
      refine wpS_countRunX B (G1.sx 0) (by omega) (by omega) fun m st2 S2 m1 m2 sg => ?_
      dsimp only
      by_cases hm : m < mr
      · rw [if_pos hm]
        refine wpS_bind (wpS_lift (wpAny_rule ⟨rfl, ?_⟩))
        rw [show min (a₀.size - 0) mr = mr by omega]
        refine wpS_bind ?_
        show wpS _ _ _ _ (binarySort' 0 mr m) _ _
        refine wpS_binX B S2 (by omega) m1 (by omega) sg fun st3 S3 sg3 => ?_
        rw [if_neg (by simp)]
        refine wpS_bind (wpS_get ?_)
        have p3 : pendingOf st3 = #[] := S3.pend.trans p1
        rw [show (pendingOf st3).back? = none by rw [p3]; rfl]
        dsimp only
        refine wpS_bind (wpS_modify (wpS_pure ?_))
        refine ⟨⟨S3.perm, S3.kind, S3.failed⟩, _, rfl, .inr (.inl ⟨rfl, by omega, by omega, ?_, by rw [Nat.zero_add] at sg3 ⊢; exact sg3⟩)⟩
        show (pendingOf st3).push _ = _
        rw [p3, Nat.zero_add]; rfl
      · rw [if_neg hm]
        obtain ⟨st3, rfl⟩ : ∃ st3, st2 = st3 := ⟨_, rfl⟩
        have S3 := S2
        have sg3 := sg
        refine wpS_bind (wpS_get ?_)
        have p3 : pendingOf st2 = #[] := S3.pend.trans p1
        rw [show (pendingOf st2).back? = none by rw [p3]; rfl]
        dsimp only
        refine wpS_bind (wpS_modify (wpS_pure ?_))
        refine ⟨⟨S3.perm, S3.kind, S3.failed⟩, _, rfl, .inr (.inl ⟨rfl, by omega, by omega, ?_, by rw [Nat.zero_add] at sg3 ⊢; exact sg3⟩)⟩
        show (pendingOf st2).push _ = _
        rw [p3, Nat.zero_add]; rfl
    · dsimp only
      by_cases hlo : lo ≥ a₀.size
      · rw [if_pos hlo]
        have e : lo = a₀.size := by omega
        rw [e] at p1 sg1
        exact wpS_pure ⟨G1, rfl, .inl ⟨p1, sg1⟩⟩
      · rw [if_neg hlo]
        refine wpS_bind ?_
        show wpS _ _ _ _ (countRun' lo (a₀.size - lo)) _ _
        refine wpS_countRunX B (G1.sx lo) (by omega) (by omega) fun m st2 S2 m1 m2 sg => ?_
        dsimp only
        by_cases hm : m < mr
        · rw [if_pos hm]
          refine wpS_bind (wpS_lift (wpAny_rule ⟨rfl, ?_⟩))
          rw [show min (a₀.size - lo) mr = a₀.size - lo by omega]
          refine wpS_bind ?_
          show wpS _ _ _ _ (binarySort' lo (a₀.size - lo) m) _ _
          refine wpS_binX B S2 (by omega) m1 (by omega) sg fun st3 S3 sg3 => ?_
          rw [if_neg (by simp)]
          refine wpS_bind (wpS_get ?_)
          have p3 : pendingOf st3 = #[(0, lo, 0)] := S3.pend.trans p1
          rw [show (pendingOf st3).back? = some (0, lo, 0) by rw [p3]; rfl]
          dsimp only
          refine wpS_bind (wpS_mono (wpS_forRange (I := fun _ c st' => c = (none, ()) ∧ st' = st3) (Q := fun c st' => c = (none, ()) ∧ st' = st3) ?_ (fun c st' q => q) ⟨rfl, rfl⟩) ?_)
          · rintro y c st' _ _ ⟨rfl, rfl⟩
            refine wpS_bind (wpS_get ?_)
            have pz : (pendingOf st').size = 1 := by rw [p3]; rfl
            rw [if_neg (show ¬ (pendingOf st').size > 1 by omega)]
            exact wpS_pure ⟨rfl, rfl⟩
          · rintro c st' ⟨rfl, rfl⟩
            dsimp only
            refine wpS_bind (wpS_modify ?_)
            refine wpS_bind (wpS_modify (wpS_pure ?_))
            have hz : lo + (a₀.size - lo) = a₀.size := by omega
            rw [hz] at sg3
            refine ⟨⟨S3.perm, S3.kind, S3.failed⟩, _, rfl, .inr (.inr ⟨rfl, hz, lo, power' a₀.size (2 * 0 + lo) (2 * 0 + lo + lo + (a₀.size - lo)) a₀.size, by omega, by omega, ?_, seg_pre sg1 (fun i hi => S3.pre i hi), sg3⟩)⟩
            show ((pendingOf st').modify ((pendingOf st').size - 1) _).push (lo, a₀.size - lo, 0) = _
            rw [p3]; rfl
        · rw [if_neg hm]
          have em : m = a₀.size - lo := by omega
          subst em
          have S3 := S2
          have sg3 := sg
          refine wpS_bind (wpS_get ?_)
          have p3 : pendingOf st2 = #[(0, lo, 0)] := S3.pend.trans p1
          rw [show (pendingOf st2).back? = some (0, lo, 0) by rw [p3]; rfl]
          dsimp only
          refine wpS_bind (wpS_mono (wpS_forRange (I := fun _ c st' => c = (none, ()) ∧ st' = st2) (Q := fun c st' => c = (none, ()) ∧ st' = st2) ?_ (fun c st' q => q) ⟨rfl, rfl⟩) ?_)
          · rintro y c st' _ _ ⟨rfl, rfl⟩
            refine wpS_bind (wpS_get ?_)
            have pz : (pendingOf st').size = 1 := by rw [p3]; rfl
            rw [if_neg (show ¬ (pendingOf st').size > 1 by omega)]
            exact wpS_pure ⟨rfl, rfl⟩
          · rintro c st' ⟨rfl, rfl⟩
            dsimp only
            refine wpS_bind (wpS_modify ?_)
            refine wpS_bind (wpS_modify (wpS_pure ?_))
            have hz : lo + (a₀.size - lo) = a₀.size := by omega
            rw [hz] at sg3
            refine ⟨⟨S3.perm, S3.kind, S3.failed⟩, _, rfl, .inr (.inr ⟨rfl, hz, lo, power' a₀.size (2 * 0 + lo) (2 * 0 + lo + lo + (a₀.size - lo)) a₀.size, by omega, by omega, ?_, seg_pre sg1 (fun i hi => S3.pre i hi), sg3⟩)⟩
            show ((pendingOf st').modify ((pendingOf st').size - 1) _).push (lo, a₀.size - lo, 0) = _
            rw [p3]; rfl
    · dsimp only
      rw [if_pos (Nat.le_refl _)]
      exact wpS_pure ⟨G1, rfl, .inr t⟩
end
end SortX
end
section
namespace SortX
open PySem PyProof.Rows
theorem nk_zip : ∀ {vs : List Value} {ns : List Int}, IntsAre vs ns → (vs.zip vs).map nk = ns
  | _, _, .nil => rfl
  | _, _, .cons n t h => by
    rw [List.zip_cons_cons, List.map_cons, nk_zip h]; rfl
theorem srt_to {xs : Array Keyed} (h : Srt xs.toList) : SortedTo xs xs.size := fun i j hij hj => by
  obtain ⟨x, hx⟩ := at_of (a := xs) (i := i) (by omega)
  obtain ⟨y, hy⟩ := at_of hj
  rw [K_at hx, K_at hy]
  exact h.le_at hij hx hy
theorem base_of {vs : List Value} {ns : List Int} (hI : IntsAre vs ns) (nd : ns.Nodup) : Base (pairsOf vs) := by
  refine ⟨hI.intKeys, ?_⟩
  rw [pairsOf_toList, nk_zip hI]
  exact nd
section
variable {prog : Program} {w : World} {A : Around} {E : Value → Shared → Prop} {s : Shared}
theorem list_sort_big {a : Addr} {vs : List Value} {ns : List Int} {n : Nat} {P : Fin → Shared → Prop} (ho : s.heap.get? a = some (seqObj "list" vs.toArray n)) (hI : IntsAre vs ns) (h64 : 64 ≤ vs.length) (h128 : vs.length < 128) (nd : ns.Nodup)
    (h : ∀ (out : Array Value) (ns' : List Int), IntsAre out.toList ns' → ns'.Perm ns → ns'.Pairwise (· ≤ ·) → P (.done (.ret .none)) { s with heap := sortedHeap s.heap a vs out }) :
    wpAny (model prog w) A (Builtin.«list.sort» ⟨[.ref a], []⟩) P E s := by
  rw [list_sort_plain]
  have la : a < s.heap.objs.size := Heap.lt_size ho
  refine wpAny_bind (listItems_at ho rfl (wpAny_bind (listUpdate_at ho rfl ?_)))
  obtain ⟨e1, o1⟩ : ∃ e1, (s.heap.update a (Obj.mapSeq fun _ => #[])).get? a = some (seqObj "list" #[] e1) := ⟨_, get?_update_seq ho fun _ => #[]⟩
  refine wpAny_bind (seqEpoch_at o1 rfl (wpAny_bind (wpAny_newTuple (wpAny_bind (wpAny_newList (wpAny_holding ?_))))))
  have o6 : (((s.heap.update a (Obj.mapSeq fun _ => #[])).push (seqObj "tuple" vs.toArray 0)).push (seqObj "list" #[] 0)).get? a = some (seqObj "list" #[] e1) := by
    rw [Heap.get?_push_ne _ _ _ (by rw [size_push', Heap.size_update]; exact Nat.ne_of_lt (Nat.lt_succ_of_lt la)), Heap.get?_push_ne _ _ _ (by rw [Heap.size_update]; exact Nat.ne_of_lt la)]
    exact o1
  show wpAny (model prog w) A _ P E { s with heap := ((s.heap.update a (Obj.mapSeq fun _ => #[])).push (seqObj "tuple" vs.toArray 0)).push (seqObj "list" #[] 0) }
  dsimp only
  have vz : ¬ vs.toArray.size < 2 := by simp; omega
  rw [if_neg vz, if_neg vz]
  obtain ⟨v1, v2, vr, rfl⟩ : ∃ v1 v2 vr, vs = v1 :: v2 :: vr := by
    match vs, h64 with
    | [], q => simp at q
    | [_], q => simp at q
    | v1 :: v2 :: vr, _ => exact ⟨v1, v2, vr, rfl⟩
  rw [keyKind_ints hI]
  refine wpAny_bind (wpAny_pure ?_)
  have pz := pairsOf_size (v1 :: v2 :: vr)
  refine wpAny_bind (wpAny_mono (wpS_sortRunsX (a₀ := pairsOf (v1 :: v2 :: vr)) (st := SortSt.mk' oneType' ((v1 :: v2 :: vr).toArray.zip (v1 :: v2 :: vr).toArray) #[] 7 none)
    (Q := fun _ st' => (arrOf st').toList.Perm (pairsOf (v1 :: v2 :: vr)).toList ∧ failedOf st' = none ∧ Srt (arrOf st').toList) (base_of hI nd) ⟨List.Perm.refl _, rfl, rfl⟩ rfl (by omega) (by omega) fun st' q1 q2 q3 => ⟨q1, q2, q3⟩) ?_ fun _ _ e => e)
  rintro ⟨⟨⟩, st'⟩ s' ⟨rfl, hp, hf, hs⟩
  dsimp only
  have sz : (arrOf st').size = (v1 :: v2 :: vr).length := by rw [← Array.length_toList, hp.length_eq, Array.length_toList, pz]
  refine wpAny_bind (seqEpoch_at o6 rfl (wpAny_bind (listUpdate_at o6 rfl ?_ (hsz2 := by refine Nat.le_trans (Nat.le_of_eq ((Array.size_map ..).trans sz)) ?_; rw [sizeLine_eq]; omega))))
  rw [hf]
  simp only [bne_self_eq_false, Bool.false_eq_true, if_false]
  obtain ⟨ns', b1, b2, b3⟩ := sorted_out hI (Array.perm_iff_toList_perm.mpr hp) (by have := srt_to hs; rw [sz, ← pz] at this; exact this)
  exact wpAny_pure (h _ ns' b1 b2 b3)
theorem list_sort_any {a : Addr} {vs : List Value} {ns : List Int} {n : Nat} {P : Fin → Shared → Prop} (ho : s.heap.get? a = some (seqObj "list" vs.toArray n)) (hI : IntsAre vs ns) (hl : vs.length < 64 ∨ (vs.length < 128 ∧ ns.Nodup))
    (h : ∀ (out : Array Value) (ns' : List Int), IntsAre out.toList ns' → ns'.Perm ns → ns'.Pairwise (· ≤ ·) → P (.done (.ret .none)) { s with heap := sortedHeap s.heap a vs out }) :
    wpAny (model prog w) A (Builtin.«list.sort» ⟨[.ref a], []⟩) P E s := by
  by_cases h64 : vs.length < 64
  · exact list_sort_tree ho hI h64 h
  · obtain ⟨h1, h2⟩ := hl.resolve_left h64
    exact list_sort_big ho hI (by omega) h1 h2 h
theorem sorted_any {l : Addr} {vs : List Value} {ns : List Int} {Q : Value → Shared → Prop} (hlst : s.heap.IsList l vs.toArray) (hI : IntsAre vs ns) (hl : vs.length < 64 ∨ (vs.length < 128 ∧ ns.Nodup))
    (h : ∀ (out : Array Value) (ns' : List Int), IntsAre out.toList ns' → ns'.Perm ns → ns'.Pairwise (· ≤ ·) → Q (.ref (s.heap.objs.size + 1)) { s with heap := sortedAll s.heap vs out }) :
    wpAny (model prog w) A (call (.builtin "sorted") [.ref l]) Q E s := by
  have v128 : vs.length < 128 := by rcases hl with z | ⟨z, _⟩ <;> omega
  have vline : vs.length ≤ sizeLine := by rw [sizeLine_eq]; omega
  refine Calls.call_function_entry kind_sorted plain_sorted entry_sorted (args_sorted1 _) ?_
  unfold Builtin.«sorted»
  refine wpAny_bind (m := checkCount "sorted" 1 1 _) (wpAny_pure (wpAny_bind (collect_list hlst (wpAny_bind (wpAny_newList ?_ vline)) vline)))
  have z1 : ((s.heap.push (seqObj "list" #[] 0)).update s.heap.objs.size (Obj.mapSeq (· ++ vs.toArray))).objs.size = s.heap.objs.size + 1 := by rw [Heap.size_update, size_push']
  have oL : (((s.heap.push (seqObj "list" #[] 0)).update s.heap.objs.size (Obj.mapSeq (· ++ vs.toArray))).push (seqObj "list" vs.toArray 0)).get? (s.heap.objs.size + 1) = some (seqObj "list" vs.toArray 0) := by
    rw [← z1]; exact Heap.get?_push_size _ rfl
  show wpAny _ _ _ _ _ { s with heap := ((s.heap.push (seqObj "list" #[] 0)).update s.heap.objs.size (Obj.mapSeq (· ++ vs.toArray))).push (seqObj "list" vs.toArray 0) }
  rw [z1]
  refine wpAny_bind (wpAny_holding (wpAny_call_entry slot_list_sort ⟨_, oL, rfl⟩ entry_list_sort (list_sort_any oL hI hl fun out ns' a1 a2 a3 => ⟨_, rfl, ?_⟩) (args_list_sort _)))
  exact wpAny_pure ⟨_, rfl, h out ns' a1 a2 a3⟩
end
end SortX
end
section
namespace SetX
open PySem PyProof.Rows
section
variable {prog : Program} {w : World} {A : Around} {E : Value → Shared → Prop} {s : Shared}
theorem sorted_set2 {Q : Value → Shared → Prop} {a : Addr} {ns : List Int} (hh : A.handled = none) (S : SetAt w s.heap a ns) (h128 : ns.length < 128)
    (h : ∀ s' l vs ms n, (∀ b o, s.heap.get? b = some o → s'.heap.get? b = some o) → s'.gens = s.gens → s'.os = s.os → s.heap.objs.size ≤ l → s'.heap.get? l = some (seqObj "list" vs.toArray n) → IntsAre vs ms → List.Perm ms ns → ms.Pairwise (· ≤ ·) → Q (.ref l) s') :
    wpAny (model prog w) A (call (.builtin "sorted") [.ref a]) Q E s := by
  have nd : ns.Nodup := by obtain ⟨_, _, _, _, _, _, _, _, rfl, z, _⟩ := S; exact z
  refine Calls.call_function_entry kind_sorted plain_sorted entry_sorted (args_sorted1 _) ?_
  unfold Builtin.«sorted»
  refine wpAny_bind (m := checkCount "sorted" 1 1 _) (wpAny_pure (wpAny_bind (collect_set hh S fun s1 vs ms k1 g1 o1 hz hI hp => ?_)))
  have hvl : vs.length < 128 := by rw [IntsAre.length hI, hp.length_eq]; exact h128
  refine wpAny_bind (wpAny_newList ?_ (by rw [sizeLine_eq]; omega))
  have hL : (s1.heap.push (seqObj "list" vs.toArray 0)).get? s1.heap.objs.size = some (seqObj "list" vs.toArray 0) := Heap.get?_push_size _ rfl
  refine wpAny_bind (wpAny_holding (wpAny_call_entry slot_list_sort ⟨_, hL, rfl⟩ entry_list_sort (SortX.list_sort_any (s := { s1 with heap := s1.heap.push (seqObj "list" vs.toArray 0) }) hL hI (.inr ⟨hvl, hp.nodup_iff.mpr nd⟩) fun out ns' a1 a2 a3 => ⟨_, rfl, ?_⟩) (args_list_sort _)))
  obtain ⟨n1, e1⟩ := sortedHeap_at (vs := vs) (out := out) hL
  refine wpAny_pure ⟨_, rfl, h _ s1.heap.objs.size out.toList ns' _ (fun b o z => ?_) g1 o1 hz (by simpa using e1) a1 (a2.trans hp) a3⟩
  have lb : b < s1.heap.objs.size := Heap.lt_size (k1 b o z)
  show (sortedHeap (s1.heap.push (seqObj "list" vs.toArray 0)) s1.heap.objs.size vs out).get? b = some o
  rw [sortedHeap_old (Nat.ne_of_lt lb) (by rw [size_push']; exact Nat.lt_succ_of_lt lb)]
  exact Heap.get?_push_of_some _ (k1 b o z)
end
end SetX
namespace L2
open PySem PySem.Spec PyProof.Rows
section
variable {X : Cx}
theorem call_sortedS2 (hc : X.calm = true) : CallR X (.builtin "sorted") (fun xs H Q => ∃ (a : Addr) (ns : List Int), xs = [V.ref a] ∧ H a = some (SetO X.w a ns) ∧ ns.length < 128 ∧ ∀ (p : Addr) (ms : List Int), H p = none → List.Perm ms ns → ms.Pairwise (· ≤ ·) → Q (.ref p) (upd H p (.lst (ms.map V.int)))) := by
  intro pins s σ H xs us Q I r h
  obtain ⟨a, ns, rfl, ha, hl, q⟩ := h
  obtain ⟨u, rfl, ru⟩ := vals1 r
  cases ru
  refine SetX.sorted_set2 (I.ok.hd hc) (I.setAt ha) hl fun s1 l vs ms n k g o hz e hi hp hs => ?_
  have hv : Vals (ms.map V.int) vs := vals_ints hi
  have new : ObjOk X.prog X.w (upd H l (.lst (ms.map V.int))) s1.heap l (.lst (ms.map V.int)) := ⟨by rw [List.length_map, hp.length_eq, sizeLine_eq]; omega, vs, n, hv, e⟩
  exact ⟨.ref l, _, I.laidS (s' := s1) o g k hz new, rfl, q _ ms (I.hok.fresh hz) hp hs⟩
theorem call_sortedL2 : CallR X (.builtin "sorted") (fun xs H Q => ∃ (a : Addr) (ns : List Int), xs = [V.ref a] ∧ SqL X.K H a (ns.map V.int) ∧ ns.length < 128 ∧ ns.Nodup ∧ ∀ (p : Addr) (ms : List Int), H p = none → List.Perm ms ns → ms.Pairwise (· ≤ ·) → Q (.ref p) (upd H p (.lst (ms.map V.int)))) := by
  intro pins s σ H xs us Q I r h
  obtain ⟨a, ns, rfl, ha, hl, nd, q⟩ := h
  obtain ⟨u, rfl, ru⟩ := vals1 r
  cases ru
  obtain ⟨its, rv, pl, hz⟩ := I.list ha
  have hI : IntsAre its ns := intsAre_of rv
  refine SortX.sorted_any pl.isList hI (.inr ⟨by rw [IntsAre.length hI]; exact hl, nd⟩) fun out ns' a1 a2 a3 => ?_
  obtain ⟨n1, e1⟩ := sortedAll_at s.heap its out
  have hv : Vals (ns'.map V.int) out.toList := vals_ints a1
  have new : ObjOk X.prog X.w (upd H (s.heap.objs.size + 1) (.lst (ns'.map V.int))) (sortedAll s.heap its out) (s.heap.objs.size + 1) (.lst (ns'.map V.int)) := ⟨by rw [List.length_map, a2.length_eq, sizeLine_eq]; omega, out.toList, n1, hv, by simpa using e1⟩
  exact ⟨.ref (s.heap.objs.size + 1), _, I.laid (t' := s.toks) (fun b o z => sortedAll_old z) (Nat.le_succ _) new, rfl, q _ ns' (I.hok.fresh (Nat.le_succ _)) a2 a3⟩
def tEi (t u : TE) : TE := fun σ H Q => t σ H Q ∨ u σ H Q
theorem pe_either {e : Expr} {t u : TE} (h1 : PE X e t) (h2 : PE X e u) : PE X e (tEi t u) := fun pins s σ H Q I h => h.elim (h1 pins s σ H Q I) (h2 pins s σ H Q I)
theorem op_isnotB : OpR X (compareOp .IsNot) (fun x y H Q => ∃ c d, x = .bl c ∧ y = .bl d ∧ Q (.bl (c != d)) H) := by
  intro pins s σ H x y v u Q I rx ry h
  obtain ⟨c, d, rfl, rfl, q⟩ := h
  cases rx
  cases ry
  exact isnot_bool ⟨.bl (c != d), H, I, rfl, q⟩
theorem count_eqU : ∀ {bs : List Bool} {us : List Value} {k : Bool}, Vals (bs.map V.bl) us → us.countP (eqU (.bl k)) = bs.count k
  | [], us, k, r => by cases r; rfl
  | b :: bs, us, k, r => by
    rw [List.map_cons] at r
    cases r with
    | cons p q =>
      cases p
      rw [List.countP_cons, count_eqU q, List.count_cons]
      have : eqU (.bl k) (Value.bool b) = (b == k) := by
        have := eqU_of (x := .bl k) (y := .bl b) (u := Value.bool b) rfl rfl
        rw [this]; rfl
      rw [this]
theorem flat_bls (bs : List Bool) : (bs.map V.bl).all flatV = true := by
  rw [List.all_eq_true]; intro x hx
  obtain ⟨k, _, rfl⟩ := List.mem_map.mp hx; rfl
theorem mt_lcountB : MtR X "list.count" (fun x xs H Q => ∃ (a : Addr) (bs : List Bool) (k : Bool), x = .ref a ∧ xs = [.bl k] ∧ H a = some (.lst (bs.map V.bl)) ∧ Q (.int (bs.count k)) H) := by
  intro pins s σ H x xs v us Q I rx rs h
  obtain ⟨a, bs, k, rfl, rfl, ha, q⟩ := h
  cases rx
  obtain ⟨u, rfl, ru⟩ := vals1 rs
  cases ru
  obtain ⟨z, its, n, r, hl, e⟩ := I.lstM ha
  refine call_meets PySem.F.slot_list_count ⟨_, e, rfl⟩ PySem.F.entry_list_count (PySem.F.args_list_count_2 _ _) (SeqAt.list_countAt a its.toArray n _ _ (.bool k) (eqU (.bl k))) ⟨e, fun y hy => mem_eqAt (x := .bl k) rfl rfl r (flat_bls bs) y (by simpa using hy), ?_⟩
  rw [show its.toArray.toList = its from rfl, count_eqU r]
  exact ⟨.int (bs.count k), H, I.tok _, ⟨_, rfl⟩, q⟩
theorem back_len (n : Nat) : (Builtin.Str.strSliceIndices none none (-1) n).length ≤ n := by
  unfold Builtin.Str.strSliceIndices sliceRange
  simp
  omega
def bk (z : Str) : Str := ⟨((Builtin.Str.strSliceIndices none none (-1) z.length).filterMap (z.cps[·]?)).toArray⟩
theorem bk_mem {z : Str} {c : Nat} (hc : c ∈ (bk z).cps.toList) : c ∈ z.cps.toList := by
  have h' : c ∈ List.filterMap (fun x => z.cps[x]?) (Builtin.Str.strSliceIndices none none (-1) z.length) := by simpa [bk] using hc
  obtain ⟨i, _, hi⟩ := List.mem_filterMap.mp h'
  exact Array.mem_toList_iff.mpr (Array.mem_of_getElem? hi)
theorem bk_len (z : Str) : (bk z).length ≤ z.length := by
  show (List.filterMap (fun x => z.cps[x]?) (Builtin.Str.strSliceIndices none none (-1) z.length)).toArray.size ≤ z.length
  rw [List.size_toArray]
  exact Nat.le_trans (List.length_filterMap_le _ _) (back_len z.length)
theorem sl_back : SlR3 X (fun x lo hi st H Q => ∃ (z : Str), x = .str z ∧ lo = none ∧ hi = none ∧ st = some (-1) ∧ z.length ≤ sizeLine ∧ Q (.str (bk z)) H) := by
  intro pins s σ H x v vl vu vs lo hi st sl Q I rx hs pl pu ps h
  obtain ⟨z, rfl, rfl, rfl, rfl, hz, q⟩ := h
  obtain ⟨t, rfl⟩ := rx
  refine ⟨"str", _, F.slot_str_getitem.lookup, typeIs_str _ _ _, ?_⟩
  cases pl
  cases pu
  cases ps with
  | int i u =>
    refine wpAny_getItem_str_slice (l := none) (u := none) (st := some (-1, u)) hs rfl ?_
    unfold sliceMade
    rw [if_neg (by simp)]
    exact ⟨Nat.le_trans (bk_len z) hz, ⟨.str (bk z), H, I.tok _, ⟨_, rfl⟩, q⟩⟩
end
end L2
end
section
namespace Mir
open P3
theorem pl_same {l r l' r' : List Int} (h1 : ∀ k, k ∈ l' ↔ k ∈ l) (h2 : ∀ k, k ∈ r' ↔ k ∈ r) (k : Int) : pl l' r' k = pl l r k := by
  unfold pl
  by_cases a : k ∈ r
  · rw [if_pos a, if_pos ((h2 k).mpr a)]
  · rw [if_neg a, if_neg (fun z => a ((h2 k).mp z))]
    by_cases b : k ∈ l
    · rw [if_pos b, if_pos ((h1 k).mpr b)]
    · rw [if_neg b, if_neg (fun z => b ((h1 k).mp z))]
theorem pl_consL {l r : List Int} {x k : Int} (h : k ≠ x) : pl (x :: l) r k = pl l r k := by
  unfold pl; simp [List.mem_cons, h]
theorem pl_consR {l r : List Int} {x k : Int} (h : k ≠ x) : pl l (x :: r) k = pl l r k := by
  unfold pl; simp [List.mem_cons, h]
theorem pl_E {l r : List Int} {k : Int} (h1 : k ∉ l) (h2 : k ∉ r) : pl l r k = E := by
  unfold pl; simp [h1, h2]
theorem pl_L {l r : List Int} {k : Int} (h2 : k ∉ r) : pl (k :: l) r k = L := by
  unfold pl; simp [h2]
theorem pl_R {l r : List Int} {k : Int} : pl l (k :: r) k = R := by
  unfold pl; simp
theorem cs1_congr {l r l' r' : List Int} {o : P3} : ∀ (cs : List Nat) (i : Nat), (∀ k : Nat, i ≤ k → k < i + cs.length → pl l' r' k = pl l r k) → cs1 l' r' o i cs = cs1 l r o i cs
  | [], _, _ => rfl
  | c :: cs, i, h => by
    show c1 c (pl l' r' i) o + cs1 l' r' o (i+1) cs = c1 c (pl l r i) o + cs1 l r o (i+1) cs
    rw [h i (Nat.le_refl _) (by simp), cs1_congr cs (i+1) fun k h1 h2 => h k (by omega) (by simp; omega)]
def at1 (cs : List Nat) (j : Nat) (p o : P3) : Nat := match cs[j]? with | some c => c1 c p o | none => 0
theorem cs1_upd {l r l' r' : List Int} {o : P3} : ∀ (cs : List Nat) (i j : Nat), (∀ k : Nat, k ≠ i + j → pl l' r' k = pl l r k) →
    cs1 l' r' o i cs + at1 cs j (pl l r ((i + j : Nat) : Int)) o = cs1 l r o i cs + at1 cs j (pl l' r' ((i + j : Nat) : Int)) o
  | [], _, _, _ => by simp [cs1, at1]
  | c :: cs, i, 0, h => by
    have e := cs1_congr (o := o) cs (i+1) fun k h1 _ => h k (by omega)
    show c1 c (pl l' r' i) o + cs1 l' r' o (i+1) cs + c1 c (pl l r ((i : Nat) : Int)) o = c1 c (pl l r i) o + cs1 l r o (i+1) cs + c1 c (pl l' r' ((i : Nat) : Int)) o
    rw [e]; omega
  | c :: cs, i, j+1, h => by
    have ih := cs1_upd (o := o) cs (i+1) j fun k hk => h k (by omega)
    have e0 := h i (by omega)
    have e1 : i + (j+1) = i + 1 + j := by omega
    show c1 c (pl l' r' i) o + cs1 l' r' o (i+1) cs + at1 cs j (pl l r ((i+(j+1) : Nat) : Int)) o = c1 c (pl l r i) o + cs1 l r o (i+1) cs + at1 cs j (pl l' r' ((i+(j+1) : Nat) : Int)) o
    rw [e1, e0]; omega
def evs : List Int → List Int
  | [] => []
  | [x] => [x]
  | x :: _ :: t => x :: evs t
def ods : List Int → List Int
  | [] => []
  | [_] => []
  | _ :: y :: t => y :: ods t
theorem evs_ods : ∀ ps : List Int, List.Perm (evs ps ++ ods ps) ps
  | [] => .nil
  | [x] => .refl _
  | x :: y :: t => List.Perm.cons x (List.perm_middle.trans (List.Perm.cons y (evs_ods t)))
theorem evs_len : ∀ ps : List Int, (evs ps).length = (ps.length + 1) / 2
  | [] => rfl
  | [x] => by simp [evs]
  | x :: y :: t => by show (evs t).length + 1 = (t.length + 1 + 1 + 1) / 2; rw [evs_len t]; omega
theorem ods_len : ∀ ps : List Int, (ods ps).length = ps.length / 2
  | [] => rfl
  | [x] => by simp [ods]
  | x :: y :: t => by show (ods t).length + 1 = (t.length + 1 + 1) / 2; rw [ods_len t]; omega
theorem evs_mem {ps : List Int} {x : Int} (h : x ∈ evs ps) : x ∈ ps := (evs_ods ps).mem_iff.mp (List.mem_append_left _ h)
theorem ods_mem {ps : List Int} {x : Int} (h : x ∈ ods ps) : x ∈ ps := (evs_ods ps).mem_iff.mp (List.mem_append_right _ h)
theorem evs_pick : ∀ (ns : List Int) (b : Nat), b ≤ ns.length → (List.range ((b + 1) / 2)).filterMap (fun k => ns[2 * k]?) = evs (ns.take b)
  | [], b, h => by have e : b = 0 := by simpa using h
                   subst e; rfl
  | [x], 0, _ => rfl
  | [x], 1, _ => rfl
  | [x], b + 2, h => by simp at h
  | x :: y :: t, 0, _ => rfl
  | x :: y :: t, 1, _ => rfl
  | x :: y :: t, b + 2, h => by
    have ih := evs_pick t b (by simp at h; omega)
    have e : (b + 2 + 1) / 2 = (b + 1) / 2 + 1 := by omega
    rw [e, List.range_succ_eq_map, List.filterMap_cons]
    show x :: _ = x :: evs (t.take b)
    rw [← ih, List.filterMap_map]
    rfl
theorem ods_pick : ∀ (ns : List Int) (b : Nat), b ≤ ns.length → (List.range (b / 2)).filterMap (fun k => ns[2 * k + 1]?) = ods (ns.take b)
  | [], b, h => by have e : b = 0 := by simpa using h
                   subst e; rfl
  | [x], 0, _ => rfl
  | [x], 1, _ => rfl
  | [x], b + 2, h => by simp at h
  | x :: y :: t, 0, _ => rfl
  | x :: y :: t, 1, _ => rfl
  | x :: y :: t, b + 2, h => by
    have ih := ods_pick t b (by simp at h; omega)
    have e : (b + 2) / 2 = b / 2 + 1 := by omega
    rw [e, List.range_succ_eq_map, List.filterMap_cons]
    show y :: _ = y :: ods (t.take b)
    rw [← ih, List.filterMap_map]
    rfl
def gg (cs : List Nat) (o : P3) : List Int → Nat
  | [] => 0
  | [x] => at1 cs x.toNat L o
  | x :: y :: t => at1 cs x.toNat L o + at1 cs y.toNat R o + gg cs o t
def ge (cs : List Nat) (o : P3) : List Int → Nat
  | [] => 0
  | x :: t => at1 cs x.toNat E o + ge cs o t
theorem tally {cs : List Nat} {o : P3} : ∀ ps : List Int, ps.Nodup → (∀ x ∈ ps, 0 ≤ x) → cs1 (evs ps) (ods ps) o 0 cs + ge cs o ps = cs1 [] [] o 0 cs + gg cs o ps
  | [], _, _ => rfl
  | [x], _, h0 => by
    have hx := h0 x List.mem_cons_self
    have ex : ((0 + x.toNat : Nat) : Int) = x := by omega
    have u := cs1_upd (l := []) (r := []) (l' := [x]) (r' := []) (o := o) cs 0 x.toNat fun k hk => pl_consL (by omega)
    rw [ex, pl_L (by simp), pl_E (by simp) (by simp)] at u
    show cs1 [x] [] o 0 cs + (at1 cs x.toNat E o + 0) = _ + at1 cs x.toNat L o
    omega
  | x :: y :: t, hn, h0 => by
    obtain ⟨n1, n2⟩ := List.nodup_cons.mp hn
    obtain ⟨n3, n4⟩ := List.nodup_cons.mp n2
    have ih := tally (cs := cs) (o := o) t n4 fun z hz => h0 z (List.mem_cons_of_mem _ (List.mem_cons_of_mem _ hz))
    have hx := h0 x List.mem_cons_self
    have hy := h0 y (List.mem_cons_of_mem _ List.mem_cons_self)
    have ex : ((0 + x.toNat : Nat) : Int) = x := by omega
    have ey : ((0 + y.toNat : Nat) : Int) = y := by omega
    have xt : x ∉ t := fun z => n1 (List.mem_cons_of_mem _ z)
    have xy : y ≠ x := fun z => n1 (z ▸ List.mem_cons_self)
    have u := cs1_upd (l := evs t) (r := ods t) (l' := x :: evs t) (r' := ods t) (o := o) cs 0 x.toNat fun k hk => pl_consL (by omega)
    rw [ex, pl_L (fun z => xt (ods_mem z)), pl_E (fun z => xt (evs_mem z)) (fun z => xt (ods_mem z))] at u
    have v := cs1_upd (l := x :: evs t) (r := ods t) (l' := x :: evs t) (r' := y :: ods t) (o := o) cs 0 y.toNat fun k hk => pl_consR (by omega)
    rw [ey, pl_R, pl_E (fun z => by rcases List.mem_cons.mp z with q | q; exact xy q; exact n3 (evs_mem q)) (fun z => n3 (ods_mem z))] at v
    show cs1 (x :: evs t) (y :: ods t) o 0 cs + (at1 cs x.toNat E o + (at1 cs y.toNat E o + ge cs o t)) = _ + (at1 cs x.toNat L o + at1 cs y.toNat R o + gg cs o t)
    omega
theorem cs1_none {o : P3} : ∀ (cs : List Nat) (i : Nat), (∀ c ∈ cs, Sign c) → cs1 [] [] o i cs = if o = E then 2 * cs.count 101 + cs.count 104 + cs.count 108 else 0
  | [], _, _ => by cases o <;> rfl
  | c :: cs, i, h => by
    have ih := cs1_none (o := o) cs (i + 1) fun d hd => h d (List.mem_cons_of_mem _ hd)
    show c1 c (pl [] [] i) o + cs1 [] [] o (i + 1) cs = _
    rw [ih, pl_E (by simp) (by simp)]
    have e : ∀ d, (c :: cs).count d = [c].count d + cs.count d := fun d => by
      rw [List.count_cons, List.count_cons, List.count_nil]; omega
    rw [e, e, e]
    rcases h c List.mem_cons_self with rfl | rfl | rfl | rfl <;> cases o <;> simp [c1, mayH, mayL, other] <;> omega
def Prd (cs : List Nat) : List Int → Prop
  | [] => True
  | [_] => True
  | x :: y :: t => cs[x.toNat]? = cs[y.toNat]? ∧ Prd cs t
theorem at1_of {cs : List Nat} {j c : Nat} (h : cs[j]? = some c) (p o : P3) : at1 cs j p o = c1 c p o := by unfold at1; rw [h]
theorem gg_e {cs : List Nat} {o : P3} (ho : o ≠ E) : ∀ ps : List Int, (∀ x ∈ ps, cs[x.toNat]? = some 101) → gg cs o ps = ps.length
  | [], _ => rfl
  | [x], h => by
    show at1 cs x.toNat L o = 1
    rw [at1_of (h x List.mem_cons_self)]
    cases o <;> first | rfl | exact absurd rfl ho
  | x :: y :: t, h => by
    show at1 cs x.toNat L o + at1 cs y.toNat R o + gg cs o t = t.length + 1 + 1
    rw [gg_e ho t fun z hz => h z (List.mem_cons_of_mem _ (List.mem_cons_of_mem _ hz)), at1_of (h x List.mem_cons_self), at1_of (h y (List.mem_cons_of_mem _ List.mem_cons_self))]
    have e1 : c1 101 L o = 1 := by cases o <;> first | rfl | exact absurd rfl ho
    have e2 : c1 101 R o = 1 := by cases o <;> first | rfl | exact absurd rfl ho
    omega
theorem gg_E {cs : List Nat} : ∀ ps : List Int, gg cs E ps = 0
  | [] => rfl
  | [x] => by show at1 cs x.toNat L E = 0; unfold at1; split <;> simp [c1, other]
  | x :: y :: t => by
    show at1 cs x.toNat L E + at1 cs y.toNat R E + gg cs E t = 0
    rw [gg_E t]
    have e1 : at1 cs x.toNat L E = 0 := by unfold at1; split <;> simp [c1, other]
    have e2 : at1 cs y.toNat R E = 0 := by unfold at1; split <;> simp [c1, other]
    omega
theorem ge_no {cs : List Nat} {o : P3} (ho : o ≠ E) : ∀ ps : List Int, ge cs o ps = 0
  | [] => rfl
  | x :: t => by
    show at1 cs x.toNat E o + ge cs o t = 0
    rw [ge_no ho t]
    have e1 : at1 cs x.toNat E o = 0 := by unfold at1; split <;> cases o <;> simp [c1, other] at ho ⊢
    omega
theorem ge_e {cs : List Nat} : ∀ ps : List Int, (∀ x ∈ ps, cs[x.toNat]? = some 101) → ge cs E ps = 2 * ps.length
  | [], _ => rfl
  | x :: t, h => by
    show at1 cs x.toNat E E + ge cs E t = 2 * (t.length + 1)
    rw [ge_e t fun z hz => h z (List.mem_cons_of_mem _ hz), at1_of (h x List.mem_cons_self)]
    have : c1 101 E E = 2 := rfl
    omega
theorem ge_hl {cs : List Nat} : ∀ ps : List Int, (∀ x ∈ ps, cs[x.toNat]? = some 104 ∨ cs[x.toNat]? = some 108) → ge cs E ps = ps.length
  | [], _ => rfl
  | x :: t, h => by
    show at1 cs x.toNat E E + ge cs E t = t.length + 1
    rw [ge_hl t fun z hz => h z (List.mem_cons_of_mem _ hz)]
    have : at1 cs x.toNat E E = 1 := by
      rcases h x List.mem_cons_self with e | e
      · rw [at1_of e]; rfl
      · rw [at1_of e]; rfl
    omega
theorem gg_hl {cs : List Nat} {o : P3} (ho : o ≠ E) : ∀ ps : List Int, (∀ x ∈ ps, cs[x.toNat]? = some 104 ∨ cs[x.toNat]? = some 108) → Prd cs ps → gg cs o ps ≤ (ps.length + 1) / 2
  | [], _, _ => Nat.zero_le _
  | [x], h, _ => by
    have e1 : ([x].length + 1) / 2 = 1 := by simp
    rw [e1]
    show at1 cs x.toNat L o ≤ 1
    rcases h x List.mem_cons_self with e | e
    · rw [at1_of e]; cases o <;> decide
    · rw [at1_of e]; cases o <;> decide
  | x :: y :: t, h, p => by
    obtain ⟨p1, p2⟩ := p
    have ih := gg_hl ho t (fun z hz => h z (List.mem_cons_of_mem _ (List.mem_cons_of_mem _ hz))) p2
    show at1 cs x.toNat L o + at1 cs y.toNat R o + gg cs o t ≤ (t.length + 1 + 1 + 1) / 2
    have : at1 cs x.toNat L o + at1 cs y.toNat R o = 1 := by
      rcases h x List.mem_cons_self with e | e
      · rw [at1_of e, at1_of (p1 ▸ e)]; cases o <;> first | rfl | exact absurd rfl ho
      · rw [at1_of e, at1_of (p1 ▸ e)]; cases o <;> first | rfl | exact absurd rfl ho
    omega
theorem Prd.take {cs : List Nat} : ∀ (ps : List Int) (k : Nat), Prd cs ps → Prd cs (ps.take k)
  | [], k, _ => by rw [List.take_nil]; trivial
  | [x], 0, _ => trivial
  | [x], k + 1, _ => by rw [List.take_succ_cons, List.take_nil]; trivial
  | x :: y :: t, 0, _ => trivial
  | x :: y :: t, 1, _ => trivial
  | x :: y :: t, k + 2, h => ⟨h.1, Prd.take t k h.2⟩
theorem Prd.app {cs : List Nat} : ∀ (a b : List Int), a.length % 2 = 0 → Prd cs a → Prd cs b → Prd cs (a ++ b)
  | [], b, _, _, h => h
  | [x], b, h, _, _ => by simp at h
  | x :: y :: t, b, h, ha, hb => ⟨ha.1, Prd.app t b (by simp at h; omega) ha.2 hb⟩
theorem Prd.one {cs : List Nat} {c : Nat} : ∀ (a : List Int), (∀ x ∈ a, cs[x.toNat]? = some c) → Prd cs a
  | [], _ => trivial
  | [x], _ => trivial
  | x :: y :: t, h => ⟨by rw [h x List.mem_cons_self, h y (List.mem_cons_of_mem _ List.mem_cons_self)], Prd.one t fun z hz => h z (List.mem_cons_of_mem _ (List.mem_cons_of_mem _ hz))⟩
theorem open_e {cs : List Nat} {pf : List Int} {M on : Nat} (sg : ∀ c ∈ cs, Sign c) (nd : pf.Nodup) (h0 : ∀ x ∈ pf, 0 ≤ x) (hs : ∀ x ∈ pf, cs[x.toNat]? = some 101) (hl : pf.length = cs.count 101) (hh : cs.count 104 = 0) (hl2 : cs.count 108 = 0)
    (hM : M % 2 = 1) (h1 : M < 2 * cs.count 101 + 1) (h2 : 2 * cs.count 101 + 1 ≤ 3 * M) (ho : on = cs.count 101 - (M - 1) / 2) (o : P3) :
    cs1 (evs (pf.take on)) (ods (pf.take on)) o 0 cs + (if o = E then 1 else 0) ≤ M := by
  have sub : ∀ x ∈ pf.take on, x ∈ pf := fun x hx => List.mem_of_mem_take hx
  have t := tally (cs := cs) (o := o) (pf.take on) (nd.sublist (List.take_sublist _ _)) fun x hx => h0 x (sub x hx)
  rw [cs1_none cs 0 sg, hh, hl2] at t
  have len : (pf.take on).length = on := by rw [List.length_take, hl]; omega
  by_cases hE : o = E
  · subst hE
    rw [gg_E, ge_e _ fun x hx => hs x (sub x hx), len] at t
    simp at t ⊢
    omega
  · rw [gg_e hE _ fun x hx => hs x (sub x hx), ge_no hE, len, if_neg hE] at t
    rw [if_neg hE]
    omega
theorem open_hl {cs : List Nat} {pf : List Int} {M on : Nat} (sg : ∀ c ∈ cs, Sign c) (nd : pf.Nodup) (h0 : ∀ x ∈ pf, 0 ≤ x) (hs : ∀ x ∈ pf, cs[x.toNat]? = some 104 ∨ cs[x.toNat]? = some 108) (hl : pf.length = cs.count 104 + cs.count 108) (he : cs.count 101 = 0)
    (hM : 0 < M) (h1 : M < cs.count 104 + cs.count 108) (h2 : cs.count 104 + cs.count 108 ≤ 3 * M) (ho : on = cs.count 104 + cs.count 108 - M) (hp : ∀ k, k < pf.length → Prd cs (pf.take k)) (o : P3) :
    cs1 (evs (pf.take on)) (ods (pf.take on)) o 0 cs ≤ M := by
  have sub : ∀ x ∈ pf.take on, x ∈ pf := fun x hx => List.mem_of_mem_take hx
  have t := tally (cs := cs) (o := o) (pf.take on) (nd.sublist (List.take_sublist _ _)) fun x hx => h0 x (sub x hx)
  rw [cs1_none cs 0 sg, he] at t
  have len : (pf.take on).length = on := by rw [List.length_take, hl]; omega
  by_cases hE : o = E
  · subst hE
    rw [gg_E, ge_hl _ fun x hx => hs x (sub x hx), len] at t
    simp at t
    omega
  · have g := gg_hl (o := o) hE (pf.take on) (fun x hx => hs x (sub x hx)) (hp on (by omega))
    rw [ge_no hE, if_neg hE] at t
    rw [len] at g
    omega
end Mir
end
section
namespace L2
open PySem PySem.Spec PyProof.Rows
def Can (P : Program) (w : World) (K : PySem.W.Frag) (mg : Str → Option Value) (base : Heap) (CX : CXT) (k : Nat) (x : Str) (ps : List Str) (sp : Sp) : Prop :=
  ∃ f fd, mg x = some (.ref f) ∧ PySem.W.keepIn K (.ref f) = true ∧ Binds K fd ps [] ∧ FnOk P w K mg base CX k f fd ps sp
theorem pe_can {X : Cx} {CX : CXT} {k : Nat} {x : Str} {ps : List Str} {sp : Sp} {E : XK} {e : Expr} {es : List Expr} {t : TA} {p pos : Pos} (C : Can X.prog X.w X.K X.mg X.base CX k x ps sp) (hr : Room k X.A) (hx : Passes CX X E) (ha : PA X (e :: es) t) (hg : Gl X x := by rfl)
    (hdb : (x == ("__debug__" : Str)) = false := by decide) (he : starEach (e :: es) X.env = (false, eval e X.env) :: starEach es X.env := by rfl) (hpl : (backTo pos (starEach es X.env)).any (·.1) = false := by rfl) : PE X (.Call (.Name x p) (e :: es) [] pos) (tCall sp [] E t) := by
  obtain ⟨f, fd, h1, h2, h3, h4⟩ := C
  exact pe_call h4 hr hg h1 h2 h3 .nil hx ha hdb he hpl
theorem tru {b : Bool} (h : b = true) {A B : Prop} (a : A) : if b = true then A else B := by rw [if_pos h]; exact a
theorem fls {b : Bool} (h : b = false) {A B : Prop} (a : B) : if b = true then A else B := by rw [if_neg (by rw [h]; simp)]; exact a
theorem Same.upd {H H' : Hp} {p : Addr} {o : HO} (h : Same H H') (hp : H' p = none) : Same H (L2.upd H' p o) := fun b u e => by rw [upd_ne (ne_of_none (h b u e) hp)]; exact h b u e
theorem Same.upd0 {H : Hp} {p : Addr} {o : HO} (hp : H p = none) : Same H (L2.upd H p o) := (Same.refl H).upd hp
end L2
namespace Ks
open PySem L2 Mir
abbrev ch1 (c : Nat) : Str := ⟨#[c]⟩
theorem s_e : ("e" : Str) = ch1 101 := by decide +kernel
theorem s_h : ("h" : Str) = ch1 104 := by decide +kernel
theorem s_l : ("l" : Str) = ch1 108 := by decide +kernel
theorem s_g : ("g" : Str) = ch1 103 := by decide +kernel
theorem ch1_inj {a b : Nat} : ch1 a = ch1 b ↔ a = b := by
  constructor
  · intro h
    have : (ch1 a).cps.toList = (ch1 b).cps.toList := by rw [h]
    simpa using this
  · intro h; rw [h]
def p3 : P3 → Str | .L => "left" | .R => "right" | .E => "even"
theorem p3_inj {a b : P3} : p3 a = p3 b ↔ a = b := by
  constructor
  · intro h
    cases a <;> cases b <;> first | rfl | exact absurd h (by decide +kernel)
  · intro h; rw [h]
structure Blt (mg : Str → Option Value) : Prop where
  isi : mg "isinstance" = none
  int : mg "int" = none
  bool : mg "bool" = none
  str : mg "str" = none
  list : mg "list" = none
  tuple : mg "tuple" = none
  len : mg "len" = none
  set : mg "set" = none
  enum : mg "enumerate" = none
  range : mg "range" = none
  any : mg "any" = none
  all : mg "all" = none
  sorted : mg "sorted" = none
  max : mg "max" = none
  min : mg "min" = none
structure Kit (K : PySem.W.Frag) : Prop where
  ii : PySem.W.kitOne K (.type "int") (.type "int") = some true
  ib : PySem.W.kitOne K (.type "int") (.type "bool") = some false
  bb : PySem.W.kitOne K (.type "bool") (.type "bool") = some true
  ss : PySem.W.kitOne K (.type "str") (.type "str") = some true
  ll : PySem.W.kitOne K (.type "list") (.type "list") = some true
  tt : PySem.W.kitOne K (.type "tuple") (.type "tuple") = some true
theorem boot_isi : bootBuiltins "isinstance" = some (.builtin "isinstance") := by decide +kernel
theorem boot_intT : bootBuiltins "int" = some (.type "int") := by decide +kernel
theorem boot_boolT : bootBuiltins "bool" = some (.type "bool") := by decide +kernel
theorem boot_strT : bootBuiltins "str" = some (.type "str") := by decide +kernel
theorem boot_listT : bootBuiltins "list" = some (.type "list") := by decide +kernel
theorem boot_setT : bootBuiltins "set" = some (.type "set") := by decide +kernel
theorem boot_lenB : bootBuiltins "len" = some (.builtin "len") := by decide +kernel
theorem boot_sortedB : bootBuiltins "sorted" = some (.builtin "sorted") := by decide +kernel
theorem boot_maxB : bootBuiltins "max" = some (.builtin "max") := by decide +kernel
theorem inV_two (c a b : Nat) : inV (.str (ch1 c)) [.str (ch1 a), .str (ch1 b)] = (c == a || c == b) := by
  show ((ch1 a == ch1 c) || ((ch1 b == ch1 c) || false)) = _
  have e : ∀ x y : Nat, (ch1 x == ch1 y) = (y == x) := fun x y => by
    by_cases h : y = x
    · subst h; simp
    · have h' : ¬ ch1 x = ch1 y := fun z => h (ch1_inj.mp z).symm
      rw [beq_eq_false_iff_ne.mpr h', beq_eq_false_iff_ne.mpr h]
  rw [e, e]; simp
section
variable {P : Program} {w : World} {K : PySem.W.Frag} {mg : Str → Option Value} {base : Heap}
def spWhole : Sp := fun vs H Q _ => ∃ i, vs = [.int i] ∧ Q (.bl true) H
theorem scWhole : FnScope ["value"] ["value"] (defScope (top 5)) := ⟨rfl, rfl, rfl, by decide +kernel, rfl, by decide +kernel, by decide +kernel⟩
theorem ok_whole {f : Addr} {fd : FuncData} (F : Fun K "is_whole" "is_whole" (top 5) f fd) (B : Blt mg) (T : Kit K) : FnOk P w K mg base CX0 1 f fd ["value"] spWhole := by
  refine F.ok scWhole (fun vs H Q E h => ?_) (fun cdv A outer s H vs Q E hr h => ?_)
  · obtain ⟨i, rfl, _⟩ := h; rfl
  · obtain ⟨i, rfl, k⟩ := h
    refine ⟨_, pss_one (ps_ret (pe_and (pe_callB call_isi (by rfl) B.isi boot_isi (pa_cons (pv 0) (pa_cons (pe_bltn (v := .ty "int") (by rfl) B.int boot_intT rfl) pa_nil)))
      (pe_one (pe_not (pe_callB call_isi (by rfl) B.isi boot_isi (pa_cons (pv 0) (pa_cons (pe_bltn (v := .ty "bool") (by rfl) B.bool boot_boolT rfl) pa_nil))))))), ?_⟩
    refine ⟨_, rfl, _, _, _, _, rfl, .int i, T.ii, _, rfl, iteT ?_⟩
    exact ⟨_, rfl, _, _, _, _, rfl, .int i, T.ib, _, rfl, k⟩
def spMayH : Sp := fun vs H Q _ => ∃ c, vs = [.str (ch1 c)] ∧ ∀ H', Same H H' → Q (.bl (mayH c)) H'
theorem scMayH : FnScope ["sign"] ["sign"] (defScope (top 17)) := ⟨rfl, rfl, rfl, by decide +kernel, rfl, by decide +kernel, by decide +kernel⟩
theorem ok_mayH {f : Addr} {fd : FuncData} (F : Fun K "may_be_heavy" "may_be_heavy" (top 17) f fd) : FnOk P w K mg base CX0 1 f fd ["sign"] spMayH := by
  refine F.ok scMayH (fun vs H Q E h => ?_) (fun cdv A outer s H vs Q E hr h => ?_)
  · obtain ⟨i, rfl, _⟩ := h; rfl
  · obtain ⟨c, rfl, k⟩ := h
    refine ⟨_, pss_one (ps_ret (pe_cmpR op_in_seq (pv 0) (pe_tup (pa_cons pe_str (pa_cons pe_str pa_nil))) rfl)), ?_⟩
    refine ⟨_, rfl, by show 2 ≤ sizeLine; decide, fun p hp => ⟨p, _, rfl, .inr (SqT.of upd_same), rfl, rfl, ?_⟩⟩
    have e : inV (.str (ch1 c)) [.str "e", .str "h"] = mayH c := by rw [s_e, s_h, inV_two]; rfl
    show Q (.bl (inV (.str (ch1 c)) [.str "e", .str "h"])) _
    rw [e]
    exact k _ (Same.upd0 hp)
theorem scMayL : FnScope ["sign"] ["sign"] (defScope (top 18)) := ⟨rfl, rfl, rfl, by decide +kernel, rfl, by decide +kernel, by decide +kernel⟩
def spMayL : Sp := fun vs H Q _ => ∃ c, vs = [.str (ch1 c)] ∧ ∀ H', Same H H' → Q (.bl (mayL c)) H'
theorem ok_mayL {f : Addr} {fd : FuncData} (F : Fun K "may_be_light" "may_be_light" (top 18) f fd) : FnOk P w K mg base CX0 1 f fd ["sign"] spMayL := by
  refine F.ok scMayL (fun vs H Q E h => ?_) (fun cdv A outer s H vs Q E hr h => ?_)
  · obtain ⟨i, rfl, _⟩ := h; rfl
  · obtain ⟨c, rfl, k⟩ := h
    refine ⟨_, pss_one (ps_ret (pe_cmpR op_in_seq (pv 0) (pe_tup (pa_cons pe_str (pa_cons pe_str pa_nil))) rfl)), ?_⟩
    refine ⟨_, rfl, by show 2 ≤ sizeLine; decide, fun p hp => ⟨p, _, rfl, .inr (SqT.of upd_same), rfl, rfl, ?_⟩⟩
    have e : inV (.str (ch1 c)) [.str "e", .str "l"] = mayL c := by rw [s_e, s_l, inV_two]; rfl
    show Q (.bl (inV (.str (ch1 c)) [.str "e", .str "l"])) _
    rw [e]
    exact k _ (Same.upd0 hp)
def allG (z : Str) : Bool := !decide (104 ∈ z.cps.toList) && !decide (108 ∈ z.cps.toList)
theorem occ1 (c : Nat) (z : Str) : (!(!(Builtin.Str.occurrences z (ch1 c) 0 z.length 1).isEmpty)) = !decide (c ∈ z.cps.toList) := by
  rw [PySem.StrLaws.found_one]
theorem scAllG : FnScope ["marks"] ["marks"] (defScope (top 19)) := ⟨rfl, rfl, rfl, by decide +kernel, rfl, by decide +kernel, by decide +kernel⟩
def spAllG : Sp := fun vs H Q _ => ∃ z, vs = [.str z] ∧ Q (.bl (allG z)) H
theorem ok_allG {f : Addr} {fd : FuncData} (F : Fun K "may_all_be_good" "may_all_be_good" (top 19) f fd) : FnOk P w K mg base CX0 1 f fd ["marks"] spAllG := by
  refine F.ok scAllG (fun vs H Q E h => ?_) (fun cdv A outer s H vs Q E hr h => ?_)
  · obtain ⟨i, rfl, _⟩ := h; rfl
  · obtain ⟨z, rfl, k⟩ := h
    refine ⟨_, pss_one (ps_ret (pe_and (pe_cmpR op_notin_str pe_str (pv 0) rfl) (pe_one (pe_cmpR op_notin_str pe_str (pv 0) rfl)))), ?_⟩
    refine ⟨_, rfl, _, _, rfl, rfl, _, rfl, ?_⟩
    rw [s_h, occ1]
    have fin : ∀ b, b = (!decide (104 ∈ z.cps.toList)) → if b = true then tOp (fun x y H Q => ∃ i j, x = V.str i ∧ y = V.str j ∧ Q (.bl (!(!(Builtin.Str.occurrences j i 0 j.length 1).isEmpty))) H) (tC (.str "l")) (tVar 0) (start ["marks"] [V.str z]) H Q else Q (.bl false) H := by
      intro b hb
      by_cases hx : 104 ∈ z.cps.toList
      · refine fls (by rw [hb]; simp [hx]) ?_
        have e : allG z = false := by unfold allG; simp [hx]
        rw [← e]; exact k
      · refine tru (by rw [hb]; simp [hx]) ?_
        refine ⟨_, rfl, _, _, rfl, rfl, ?_⟩
        rw [s_l, occ1]
        have e : allG z = !decide (108 ∈ z.cps.toList) := by unfold allG; simp [hx]
        rw [← e]; exact k
    exact fin _ rfl
end
end Ks
end
section
namespace Ks
open PySem L2 Mir
theorem dec_p3 (a b : P3) : decide (V.str (p3 a) = V.str (p3 b)) = decide (a = b) := by
  by_cases h : a = b
  · subst h; simp
  · have h' : ¬ V.str (p3 a) = V.str (p3 b) := fun z => h (p3_inj.mp (V.str.inj z))
    rw [decide_eq_false h, decide_eq_false h']
theorem dec_ch (a b : Nat) : decide (V.str (ch1 a) = V.str (ch1 b)) = decide (a = b) := by
  by_cases h : a = b
  · subst h; simp
  · have h' : ¬ V.str (ch1 a) = V.str (ch1 b) := fun z => h (ch1_inj.mp (V.str.inj z))
    rw [decide_eq_false h, decide_eq_false h']
def Oth (K : PySem.W.Frag) (w : World) (mg : Str → Option Value) : Prop :=
  ∃ (d : Addr) (es : Array DictEntry) (n : Nat), mg "OTHER" = some (.ref d) ∧ K.lookup d = some ⟨.type "dict", none, .dict es n, #[]⟩ ∧ PySem.W.KeysLit w.params es.toList ∧ ∀ p : P3, ∃ u, PySem.W.nsIn K d (p3 p) = some (some u) ∧ RelV (.str (p3 (other p))) u
section
variable {P : Program} {w : World} {K : PySem.W.Frag} {mg : Str → Option Value} {base : Heap}
def spOut : Sp := fun vs H Q _ => ∃ (p : P3) (hv : Bool), vs = [.str (p3 p), .bl hv] ∧ Q (.str (p3 (if hv then p else other p))) H
theorem scOut : FnScope ["place", "heavy"] ["place", "heavy"] (defScope (top 16)) := ⟨rfl, rfl, rfl, by decide +kernel, rfl, by decide +kernel, by decide +kernel⟩
theorem ok_out {f : Addr} {fd : FuncData} (F : Fun K "outcome_by" "outcome_by" (top 16) f fd) (O : Oth K w mg) : FnOk P w K mg base CX0 1 f fd ["place", "heavy"] spOut := by
  refine F.ok scOut (fun vs H Q E h => ?_) (fun cdv A outer s H vs Q E hr h => ?_)
  · obtain ⟨i, b, rfl, _⟩ := h; rfl
  · obtain ⟨p, hv, rfl, k⟩ := h
    obtain ⟨d, es, n, m1, m2, m3, m4⟩ := O
    obtain ⟨u, u1, u2⟩ := m4 p
    refine ⟨_, pss_one (ps_ret (pe_ifExp (pt_val (pv 1)) (pv 0) (pe_ix ix_kd (pe_glob (v := .ref d) (by rfl) m1 rfl) (pv 0) (fun _ _ => rfl)))), ?_⟩
    refine ⟨_, rfl, _, rfl, ?_⟩
    cases hv with
    | true => exact iteT ⟨_, rfl, k⟩
    | false => exact iteF ⟨_, rfl, d, es, n, _, _, u, rfl, rfl, m2, m3, u1, u2, k⟩
end
end Ks
end
section
namespace Ks
open PySem L2 Mir
structure MkOk (z : Str) : Prop where
  sg : ∀ c ∈ z.cps.toList, Sign c
  ex : 101 ∈ z.cps.toList → 104 ∉ z.cps.toList ∧ 108 ∉ z.cps.toList
  len : z.length ≤ 300
theorem signs_count : ∀ {l : List Nat}, (∀ c ∈ l, Sign c) → l.count 101 + (l.count 104 + l.count 108) + l.count 103 = l.length
  | [], _ => rfl
  | c :: l, h => by
    have ih := signs_count fun d hd => h d (List.mem_cons_of_mem _ hd)
    have e : ∀ d, (c :: l).count d = l.count d + [c].count d := fun d => by rw [List.count_cons, List.count_cons, List.count_nil]; omega
    rw [e, e, e, e, List.length_cons]
    have q : [c].count 101 + ([c].count 104 + [c].count 108) + [c].count 103 = 1 := by
      rcases h c List.mem_cons_self with rfl | rfl | rfl | rfl <;> rfl
    omega
theorem str_len (z : Str) : z.length = z.cps.toList.length := by rw [Array.length_toList]; rfl
section
variable {P : Program} {w : World} {K : PySem.W.Frag} {mg : Str → Option Value} {base : Heap}
def spCM : Sp := fun vs H Q _ => ∃ z, vs = [.str z] ∧ MkOk z ∧ Q .non H
theorem scCM : FnScope ["marks", "either", "one_way"] ["marks"] (defScope (top 6)) := ⟨rfl, rfl, rfl, by decide +kernel, rfl, by decide +kernel, by decide +kernel⟩
theorem ok_cm {f : Addr} {fd : FuncData} (F : Fun K "check_marks" "check_marks" (top 6) f fd) (B : Blt mg) (T : Kit K) : FnOk P w K mg base CX0 1 f fd ["marks"] spCM := by
  refine F.ok scCM (fun vs H Q E h => ?_) (fun cdv A outer s H vs Q E hr h => ?_)
  · obtain ⟨z, rfl, _⟩ := h; rfl
  · obtain ⟨z, rfl, M, k⟩ := h
    refine ⟨_, pss_cons (ps_if (pt_not (pt_val (pe_callB call_isi (by rfl) B.isi boot_isi (pa_cons (pv 0) (pa_cons (pe_bltn (v := .ty "str") (by rfl) B.str boot_strT rfl) pa_nil))))) pss_never pss_nil)
      (pss_cons (ps_set (i := 1) scCM.nd rfl (Or.inl rfl) (pe_bm PySem.F.plainAttrs_str PySem.F.slot_str_count PySem.F.type_str_count mt_count (pv 0) (pa_cons pe_str pa_nil)))
      (pss_cons (ps_set (i := 2) scCM.nd rfl (Or.inl rfl) (pe_op op_add (pe_bm PySem.F.plainAttrs_str PySem.F.slot_str_count PySem.F.type_str_count mt_count (pv 0) (pa_cons pe_str pa_nil)) (pe_bm PySem.F.plainAttrs_str PySem.F.slot_str_count PySem.F.type_str_count mt_count (pv 0) (pa_cons pe_str pa_nil))))
      (pss_cons (ps_if (pt_cmpR op_ne (pe_op op_add (pe_op op_add (pv 1) (pv 2)) (pe_bm PySem.F.plainAttrs_str PySem.F.slot_str_count PySem.F.type_str_count mt_count (pv 0) (pa_cons pe_str pa_nil))) (pe_callB call_len_str (by rfl) B.len boot_lenB (pa_cons (pv 0) pa_nil)) (nomark _)) pss_never pss_nil)
      (pss_one (ps_if (PW.pt (pw_and (pt_cmpR op_gt (pv 1) pe_int (nomark _)) (pw_and1 (pt_cmpR op_gt (pv 2) pe_int (nomark _))))) pss_never pss_nil))))), ?_⟩
    refine ⟨_, rfl, _, _, _, _, rfl, .str z, T.ss, _, rfl, iteF ?_⟩
    refine ⟨_, rfl, rfl, z, 101, rfl, by rw [s_e], ?_⟩
    refine ⟨_, rfl, rfl, z, 104, rfl, by rw [s_h], _, rfl, rfl, z, 108, rfl, by rw [s_l], _, _, rfl, rfl, ?_⟩
    have hz : z.length ≤ sizeLine := Nat.le_trans M.len (by decide)
    refine ⟨_, rfl, _, rfl, _, _, rfl, rfl, _, rfl, rfl, z, 103, rfl, by rw [s_g], _, _, rfl, rfl, _, rfl, z, rfl, hz, rfl, _, rfl, ?_⟩
    have hc := signs_count M.sg
    refine iteNS (by
      show V.int _ = V.int _
      refine congrArg V.int ?_
      rw [str_len]; unfold cntS; omega) ?_
    refine ⟨_, rfl, _, _, rfl, rfl, _, rfl, ?_⟩
    by_cases h1 : (0 : Int) < (cntS 101 z : Int)
    · refine tru (decide_eq_true h1) ⟨_, rfl, _, _, rfl, rfl, _, rfl, ?_⟩
      have hm : 101 ∈ z.cps.toList := List.count_pos_iff.mp (by unfold cntS at h1; omega)
      obtain ⟨q1, q2⟩ := M.ex hm
      have z1 : cntS 104 z = 0 := List.count_eq_zero_of_not_mem q1
      have z2 : cntS 108 z = 0 := List.count_eq_zero_of_not_mem q2
      refine fls (by rw [z1, z2]; rfl) ?_
      exact k
    · refine fls (decide_eq_false h1) (fls rfl ?_)
      exact k
theorem ints_at {ks : List Int} {i : Nat} {y : V} (h : (ks.map V.int)[i]? = some y) : ∃ z, ks[i]? = some z ∧ y = .int z := by
  rw [List.getElem?_map] at h
  cases e : ks[i]? with
  | none => rw [e] at h; cases h
  | some z => rw [e] at h; exact ⟨z, rfl, (Option.some.inj h).symm⟩
def spPl : Sp := fun vs H Q _ => ∃ (a b : Addr) (l r : List Int), vs = [.ref a, .ref b] ∧ H a = some (.lst (l.map V.int)) ∧ H b = some (.lst (r.map V.int)) ∧ l.length ≤ 300 ∧ r.length ≤ 300 ∧
  ∀ (p : Addr) (kvs : List (Key × V)) (H' : Hp), H p = none → Same H H' → H' p = some (.dK kvs) → (∀ k : Int, ((valV kvs (Sum.inl k : Key)).getD (.str "even")) = .str (p3 (pl l r k))) → Q (.ref p) H'
theorem scPl : FnScope ["left", "right", "places", "coin"] ["left", "right"] (defScope (top 15)) := ⟨rfl, rfl, rfl, by decide +kernel, rfl, by decide +kernel, by decide +kernel⟩
theorem ok_pl {f : Addr} {fd : FuncData} (F : Fun K "placed" "placed" (top 15) f fd) : FnOk P w K mg base CX0 1 f fd ["left", "right"] spPl := by
  refine F.ok scPl (fun vs H Q E h => ?_) (fun cdv A outer s H vs Q E hr h => ?_)
  · obtain ⟨a, b, l, r, rfl, _⟩ := h; rfl
  · obtain ⟨a, b, l, r, rfl, ha, hb, hl, hrr, k⟩ := h
    have hu := hu_of hr
    refine ⟨_, pss_cons (ps_set (i := 2) scPl.nd rfl (Or.inl rfl) pe_dnewK)
      (pss_cons (ps_for PassesOwn.never rfl (pi_list (pv 0)) (pg_name (i := 3) scPl.nd rfl (Or.inl rfl)) (pss_one (ps_dput hu (pv 2) (pv 3) pe_str rfl)))
      (pss_cons (ps_for PassesOwn.never rfl (pi_list (pv 1)) (pg_name (i := 3) scPl.nd rfl (Or.inl rfl)) (pss_one (ps_dput hu (pv 2) (pv 3) pe_str rfl)))
      (pss_one (ps_ret (pv 2))))), ?_⟩
    intro p hp
    have na : a ≠ p := ne_of_none ha hp
    have nb : b ≠ p := ne_of_none hb hp
    refine ⟨_, rfl, a, rfl, ⟨_, SqL.of (by rw [upd_ne na]; exact ha)⟩, for_list (K := K) (a := a) (xs := l.map V.int) (fun i σ H2 => ∃ (kvs : List (Key × V)) (v : Option V), σ = [some (.ref a), some (.ref b), some (.ref p), v] ∧ H2 = upd H p (.dK kvs) ∧ kvs.length ≤ i ∧ ∀ k : Int, valV kvs (Sum.inl k : Key) = if k ∈ l.take i then some (.str "left") else none)
      ⟨[], none, rfl, rfl, Nat.le_refl _, fun k => by simp [valV_nil]⟩ (fun i σ H2 _ ⟨kvs, v, _, e, _⟩ => by rw [e]; exact SqL.of (by rw [upd_ne na]; exact ha)) ?_ ?_⟩
    · rintro i y σ H2 hi ⟨kvs, v, rfl, rfl, hk, hv⟩
      obtain ⟨z, hz, rfl⟩ := ints_at hi
      have hil : i < l.length := (List.getElem?_eq_some_iff.mp hz).1
      refine ⟨_, rfl, _, rfl, p, _, rfl, DPut.k (k := Sum.inl z) upd_same (small1000 (by omega)), ?_⟩
      refine ⟨_, _, rfl, by rw [upd_upd], Nat.le_trans (length_putK _ _ _) (by omega), fun k => ?_⟩
      rw [valV_put, hv k]
      have ht : l.take (i + 1) = l.take i ++ [z] := by rw [List.take_succ, hz]; rfl
      rw [ht]
      by_cases e : k = z
      · subst e; simp
      · have e' : ¬ (Sum.inl k : Key) = Sum.inl z := fun q => e (Sum.inl.inj q)
        rw [if_neg e']
        simp [e]
    · rintro σ H2 ⟨kvs0, v0, rfl, rfl, hk0, hv0⟩
      have hvL : ∀ k : Int, valV kvs0 (Sum.inl k : Key) = if k ∈ l then some (.str "left") else none := fun k => by
        have := hv0 k
        rw [List.length_map] at this
        rwa [List.take_length] at this
      rw [List.length_map] at hk0
      refine ⟨_, rfl, b, rfl, ⟨_, SqL.of (by rw [upd_ne nb]; exact hb)⟩, for_list (K := K) (a := b) (xs := r.map V.int) (fun i σ H2 => ∃ (kvs : List (Key × V)) (v : Option V), σ = [some (.ref a), some (.ref b), some (.ref p), v] ∧ H2 = upd H p (.dK kvs) ∧ kvs.length ≤ 300 + i ∧ ∀ k : Int, valV kvs (Sum.inl k : Key) = if k ∈ r.take i then some (.str "right") else if k ∈ l then some (.str "left") else none)
        ⟨kvs0, _, rfl, rfl, by omega, fun k => by rw [hvL]; simp⟩ (fun i σ H2 _ ⟨kvs, v, _, e, _⟩ => by rw [e]; exact SqL.of (by rw [upd_ne nb]; exact hb)) ?_ ?_⟩
      · rintro i y σ H2 hi ⟨kvs, v, rfl, rfl, hk, hv⟩
        obtain ⟨z, hz, rfl⟩ := ints_at hi
        have hil : i < r.length := (List.getElem?_eq_some_iff.mp hz).1
        refine ⟨_, rfl, _, rfl, p, _, rfl, DPut.k (k := Sum.inl z) upd_same (small1000 (by omega)), ?_⟩
        refine ⟨_, _, rfl, by rw [upd_upd], Nat.le_trans (length_putK _ _ _) (by omega), fun k => ?_⟩
        rw [valV_put, hv k]
        have ht : r.take (i + 1) = r.take i ++ [z] := by rw [List.take_succ, hz]; rfl
        rw [ht]
        by_cases e : k = z
        · subst e; simp
        · have e' : ¬ (Sum.inl k : Key) = Sum.inl z := fun q => e (Sum.inl.inj q)
          rw [if_neg e']
          simp [e]
      · rintro σ H2 ⟨kvs, v, rfl, rfl, hk, hv⟩
        refine ⟨_, rfl, k p kvs _ hp (Same.upd0 hp) upd_same fun k' => ?_⟩
        have := hv k'
        rw [List.length_map, List.take_length] at this
        rw [this]
        unfold pl
        by_cases h1 : k' ∈ r
        · simp [h1, p3]
        · by_cases h2 : k' ∈ l
          · simp [h1, h2, p3]
          · simp [h1, h2, p3]
end
end Ks
end
section
namespace L2
open PySem PySem.Spec PyProof.Rows
theorem cx_own {CX : CXT} {P : Program} {w : World} {K : PySem.W.Frag} {mg : Str → Option Value} {base : Heap} {N : List Str} {qual : Str} {scope : Scope} {f : Addr} {cd : Value} {A : Around} {outer : List Env} {s : Shared} {H : Hp} {E : XK} :
    PassesOwn (model P w) (cxOf CX P w K mg base N qual scope f cd A outer s H E).A (cxOf CX P w K mg base N qual scope f cd A outer s H E).env (cxOf CX P w K mg base N qual scope f cd A outer s H E).xe := fun e s' h => wpAny_leaving_again (SameStack.refl _) h
end L2
namespace Ks
open PySem L2
def up (hi : Int) : Int → List Int → Bool
  | _, [] => true
  | last, k :: ks => decide (last < k) && decide (k ≤ hi) && up hi k ks
theorem up_iff (hi : Int) : ∀ (ks : List Int) (last : Int), up hi last ks = true ↔ ks.Pairwise (· < ·) ∧ ∀ k ∈ ks, last < k ∧ k ≤ hi
  | [], _ => by simp [up]
  | k :: ks, last => by
    unfold up
    rw [Bool.and_eq_true, Bool.and_eq_true, decide_eq_true_eq, decide_eq_true_eq, up_iff hi ks k, List.pairwise_cons]
    constructor
    · rintro ⟨⟨h1, h2⟩, h3, h4⟩
      refine ⟨⟨fun a ha => (h4 a ha).1, h3⟩, fun a ha => ?_⟩
      rcases List.mem_cons.mp ha with e | e
      · rw [e]; exact ⟨h1, h2⟩
      · have := h4 a e; omega
    · rintro ⟨⟨h1, h2⟩, h3⟩
      have hk := h3 k List.mem_cons_self
      exact ⟨hk, h2, fun a ha => ⟨h1 a ha, (h3 a (List.mem_cons_of_mem _ ha)).2⟩⟩
theorem drop_at {α : Type} {ks : List α} {i : Nat} {z : α} (h : ks[i]? = some z) : ks.drop i = z :: ks.drop (i + 1) := by
  obtain ⟨hl, e⟩ := List.getElem?_eq_some_iff.mp h
  rw [List.drop_eq_getElem_cons hl, e]
section
variable {P : Program} {w : World} {K : PySem.W.Frag} {mg : Str → Option Value} {base : Heap}
def spSdE (c : Addr) : Sp := fun vs H Q E => ∃ (n : Int) (a : Addr) (ks : List Int), vs = [.int n, .ref a] ∧ H a = some (.lst (ks.map V.int)) ∧ (up n (-1) ks = true → Q .non H) ∧ (up n (-1) ks = false → E (.ref c) none H)
theorem sc_check_side : FnScope ["highest", "side", "last", "coin"] ["highest", "side"] (defScope (top 7)) := ⟨rfl, rfl, rfl, by decide +kernel, rfl, by decide +kernel, by decide +kernel⟩
theorem ok_check_side {f : Addr} {fd : FuncData} {c : Addr} (F : Fun K "check_side" "check_side" (top 7) f fd) (B : Blt mg) (T : Kit K) (m_BadWeighing : mg "BadWeighing" = some (.ref c)) (x_BadWeighing : PySem.W.excIn K c vMro "ValueError.__new__" = true)
    (c_is_whole : Can P w K mg base CX0 1 "is_whole" ["value"] spWhole) : FnOk P w K mg base (CXE false P w) 2 f fd ["highest", "side"] (spSdE c) := by
  refine F.okE sc_check_side (fun vs H Q E h => ?_) (fun cdv A outer s H vs Q E hr h L pass => ?_)
  · obtain ⟨n, a, ks, rfl, _⟩ := h; rfl
  · obtain ⟨n, a, ks, rfl, ha, k, kn⟩ := h
    refine ⟨_, (pss_cons (ps_if (pt_not (pt_val (pe_callB call_isi (by rfl) B.isi boot_isi (pa_cons (pv 1) (pa_cons (pe_bltn (v := .ty "list") (by rfl) B.list boot_listT rfl) pa_nil))))) (pss_one (ps_raise L rfl rfl (by rfl) m_BadWeighing x_BadWeighing)) pss_nil)
      (pss_cons (ps_set (i := 2) sc_check_side.nd rfl (Or.inl rfl) (pe_un un_neg pe_int))
      (pss_one (ps_for cx_own rfl (pi_list (pv 1)) (pg_name (i := 3) sc_check_side.nd rfl (Or.inl rfl)) (pss_cons (ps_if (pt_not (pt_val (pe_can c_is_whole (hr.mono (by decide)) (E := E0) pass0 (pa_cons (pv 3) pa_nil)))) (pss_one (ps_raise L rfl rfl (by rfl) m_BadWeighing x_BadWeighing)) pss_nil) (pss_cons (ps_if (pt_cmpR op_le (pv 3) (pv 2) (nomark _)) (pss_one (ps_raise L rfl rfl (by rfl) m_BadWeighing x_BadWeighing)) pss_nil) (pss_cons (ps_if (pt_cmpR op_gt (pv 3) (pv 0) (nomark _)) (pss_one (ps_raise L rfl rfl (by rfl) m_BadWeighing x_BadWeighing)) pss_nil) (pss_one (ps_set (i := 2) sc_check_side.nd rfl (Or.inl rfl) (pv 3)))))))))), ?_⟩
    refine ⟨_, rfl, _, _, _, _, rfl, .lst ha, T.ll, _, rfl, iteF ?_⟩
    refine ⟨_, rfl, ?_⟩
    refine ⟨_, rfl, a, rfl, ⟨_, SqL.of ha⟩, for_list (K := K) (a := a) (xs := ks.map V.int) (fun i σ H2 => H2 = H ∧ ∃ (last : Int) (v : Option V), σ = [some (.int n), some (.ref a), some (.int last), v] ∧ up n (-1) ks = up n last (ks.drop i))
      ⟨rfl, _, _, rfl, rfl⟩ (fun i σ H2 _ ⟨e, _⟩ => by rw [e]; exact SqL.of ha) ?_ ?_⟩
    · rintro i y σ H2 hi ⟨rfl, last, v, rfl, hl⟩
      obtain ⟨z, hz, rfl⟩ := ints_at hi
      rw [drop_at hz] at hl
      refine ⟨_, rfl, z, rfl, _, rfl, iteF ?_⟩
      refine ⟨_, rfl, _, rfl, _, _, rfl, rfl, _, rfl, ?_⟩
      by_cases h1 : z ≤ last
      · refine tru (decide_eq_true h1) (kn ?_)
        rw [hl]; unfold up; rw [decide_eq_false (by omega)]; rfl
      refine fls (decide_eq_false h1) ?_
      refine ⟨_, rfl, _, rfl, _, _, rfl, rfl, _, rfl, ?_⟩
      by_cases h2 : z > n
      · refine tru (decide_eq_true h2) (kn ?_)
        rw [hl]; unfold up; rw [decide_eq_true (show last < z by omega), decide_eq_false (show ¬ z ≤ n by omega)]; rfl
      refine fls (decide_eq_false h2) ?_
      refine ⟨_, rfl, rfl, z, _, rfl, ?_⟩
      rw [hl]
      show up n last (z :: _) = _
      rw [up, decide_eq_true (show last < z by omega), decide_eq_true (show z ≤ n by omega)]; rfl
    · rintro σ H2 ⟨rfl, last, v, rfl, hl⟩
      refine k ?_
      rw [hl, List.length_map, List.drop_length]; rfl
def cwOk (n : Int) (l r : List Int) : Bool := up n (-1) l && up n (-1) r && decide (l.length = r.length) && decide (∀ k ∈ l, k ∉ r)
def spCwE (c : Addr) : Sp := fun vs H Q E => ∃ (n : Int) (a b : Addr) (l r : List Int), vs = [.int n, .ref a, .ref b] ∧ H a = some (.lst (l.map V.int)) ∧ H b = some (.lst (r.map V.int)) ∧ l.length ≤ 300 ∧ r.length ≤ 300 ∧ (cwOk n l r = true → ∀ H', Same H H' → Q .non H') ∧ (cwOk n l r = false → ∀ H', Same H H' → E (.ref c) none H')
theorem sc_check_weighing : FnScope ["highest", "left", "right"] ["highest", "left", "right"] (defScope (top 8)) := ⟨rfl, rfl, rfl, by decide +kernel, rfl, by decide +kernel, by decide +kernel⟩
theorem ok_check_weighing {f : Addr} {fd : FuncData} {c : Addr} (F : Fun K "check_weighing" "check_weighing" (top 8) f fd) (B : Blt mg) (m_BadWeighing : mg "BadWeighing" = some (.ref c)) (x_BadWeighing : PySem.W.excIn K c vMro "ValueError.__new__" = true)
    (c_check_side : Can P w K mg base (CXE false P w) 2 "check_side" ["highest", "side"] (spSdE c)) : FnOk P w K mg base (CXE false P w) 3 f fd ["highest", "left", "right"] (spCwE c) := by
  refine F.okE sc_check_weighing (fun vs H Q E h => ?_) (fun cdv A outer s H vs Q E hr h L pass => ?_)
  · obtain ⟨n, a, b, l, r, rfl, _⟩ := h; rfl
  · obtain ⟨n, a, b, l, r, rfl, ha, hb, hll, hlr, k, kn⟩ := h
    refine ⟨_, (pss_cons (ps_expr (pe_can c_check_side (hr.mono (by decide)) pass (pa_cons (pv 0) (pa_cons (pv 1) pa_nil))))
      (pss_cons (ps_expr (pe_can c_check_side (hr.mono (by decide)) pass (pa_cons (pv 0) (pa_cons (pv 2) pa_nil))))
      (pss_cons (ps_if (pt_cmpR op_ne (pe_callB call_len_seq (by rfl) B.len boot_lenB (pa_cons (pv 1) pa_nil)) (pe_callB call_len_seq (by rfl) B.len boot_lenB (pa_cons (pv 2) pa_nil)) (nomark _)) (pss_one (ps_raise L rfl rfl (by rfl) m_BadWeighing x_BadWeighing)) pss_nil)
      (pss_one (ps_if (pt_cmpR op_gt (pe_callB call_lenS (by rfl) B.len boot_lenB (pa_cons (pe_op op_andS (pe_callTy (call_setL rfl) (by rfl) B.set boot_setT (pa_cons (pv 1) pa_nil)) (pe_callTy (call_setL rfl) (by rfl) B.set boot_setT (pa_cons (pv 2) pa_nil))) pa_nil)) pe_int (nomark _)) (pss_one (ps_raise L rfl rfl (by rfl) m_BadWeighing x_BadWeighing)) pss_nil))))), ?_⟩
    refine ⟨_, rfl, _, rfl, n, a, l, rfl, ha, fun u1 => ?_, fun u1 => kn (by unfold cwOk; rw [u1]; rfl) H (Same.refl H)⟩
    refine ⟨_, rfl, _, rfl, n, b, r, rfl, hb, fun u2 => ?_, fun u2 => kn (by unfold cwOk; rw [u1, u2]; rfl) H (Same.refl H)⟩
    refine ⟨_, rfl, a, _, rfl, .inl (SqL.of ha), _, rfl, b, _, rfl, .inl (SqL.of hb), rfl, _, rfl, ?_⟩
    by_cases hlen : l.length = r.length
    · refine iteNS (by
        show V.int _ = V.int _
        rw [List.length_map, List.length_map, hlen]) ?_
      refine ⟨_, rfl, a, l, rfl, SqL.of ha, by omega, fun p1 m1 hp1 e1 n1 => ?_⟩
      have hb1 : upd H p1 (SetO w p1 m1) b = some (.lst (r.map V.int)) := by rw [upd_ne (ne_of_none hb hp1)]; exact hb
      refine ⟨_, rfl, b, r, rfl, SqL.of hb1, by omega, fun p2 m2 hp2 e2 n2 => ?_⟩
      have h12 : p2 ≠ p1 := fun z => by rw [z, upd_same] at hp2; cases hp2
      have q1 : upd (upd H p1 (SetO w p1 m1)) p2 (SetO w p2 m2) p1 = some (SetO w p1 m1) := by rw [upd_ne (Ne.symm h12), upd_same]
      refine ⟨p1, p2, m1, m2, rfl, rfl, h12, q1, upd_same, fun p3' ks hp3 e3 => ?_⟩
      have s1 : Same H (upd H p1 (SetO w p1 m1)) := Same.upd0 hp1
      have s3 := (s1.upd (o := SetO w p2 m2) hp2).upd (o := SetO w p3' ks) hp3
      refine ⟨p3', ks, rfl, upd_same, _, _, rfl, rfl, _, rfl, ?_⟩
      by_cases hd : ∀ k ∈ l, k ∉ r
      · have hk : ks = [] := by
          cases ks with
          | nil => rfl
          | cons y t =>
            have := (e3 y).mp List.mem_cons_self
            exact absurd ((e2 y).mp this.2) (hd y ((e1 y).mp this.1))
        subst hk
        exact iteF (k (by unfold cwOk; rw [u1, u2, decide_eq_true hlen, decide_eq_true hd]; rfl) _ s3)
      · have hk : 0 < ks.length := by
          cases ks with
          | nil =>
            exfalso
            refine hd fun y hy hy' => ?_
            have := (e3 y).mpr ⟨(e1 y).mpr hy, (e2 y).mpr hy'⟩
            simp at this
          | cons y t => simp
        refine tru (decide_eq_true (show (ks.length : Int) > 0 by omega)) (kn (by unfold cwOk; rw [u1, u2, decide_eq_true hlen, decide_eq_false hd]; rfl) _ s3)
    · refine tru ?_ (kn (by unfold cwOk; rw [u1, u2, decide_eq_false hlen]; rfl) H (Same.refl H))
      show (!decide (V.int _ = V.int _)) = true
      rw [List.length_map, List.length_map, decide_eq_false (fun z => hlen (by injection z with z; omega))]; rfl
end
end Ks
end
section
namespace L2
theorem Same.put {H H' : Hp} {p : PySem.Addr} {o : HO} (h : Same H H') (hp : H p = none) : Same H (L2.upd H' p o) := fun b u e => by rw [upd_ne (ne_of_none e hp)]; exact h b u e
end L2
namespace Ks
open PySem L2 Mir
def jd (z : Str) (l r : List Int) (o : P3) : Nat := cs1 l r o 0 z.cps.toList + (if o = .E ∧ allG z = true then 1 else 0)
def CSt (H : Hp) (pd cd : Addr) (pk : List (Key × V)) (f : P3 → Nat) (n : Nat) (H4 : Hp) : Prop :=
  Same H H4 ∧ H4 pd = some (.dK pk) ∧ ∃ kvs : List (Key × V), H4 cd = some (.dK kvs) ∧ kvs.length ≤ n ∧ ∀ o : P3, valV kvs (Sum.inr (p3 o) : Key) = some (.int (f o))
theorem CSt.same {H : Hp} {pd cd : Addr} {pk : List (Key × V)} {f : P3 → Nat} {n : Nat} {H4 H5 : Hp} (h : CSt H pd cd pk f n H4) (s : Same H4 H5) : CSt H pd cd pk f n H5 := by
  obtain ⟨s1, e1, kvs, e2, hl, hv⟩ := h
  exact ⟨s1.trans s, s _ _ e1, kvs, s _ _ e2, hl, hv⟩
theorem CSt.put {H : Hp} {pd cd : Addr} {pk : List (Key × V)} {f : P3 → Nat} {n : Nat} {H4 : Hp} {kvs : List (Key × V)} (hc : H cd = none) (ne : pd ≠ cd) (s1 : Same H H4) (e1 : H4 pd = some (.dK pk)) (hl : kvs.length ≤ n) (hv : ∀ o : P3, valV kvs (Sum.inr (p3 o) : Key) = some (.int (f o))) (q : P3) :
    CSt H pd cd pk (fun o => f o + if decide (q = o) then 1 else 0) (n + 1) (upd H4 cd (.dK (putK kvs (Sum.inr (p3 q)) (.int ((f q : Int) + 1))))) := by
  refine ⟨s1.put hc, by rw [upd_ne ne]; exact e1, _, upd_same, Nat.le_trans (length_putK _ _ _) (by omega), fun o => ?_⟩
  rw [valV_put]
  by_cases e : o = q
  · subst e; simp
  · have e' : ¬ (Sum.inr (p3 o) : Key) = Sum.inr (p3 q) := fun z => e (p3_inj.mp (Sum.inr.inj z))
    rw [if_neg e', hv o]
    have e2 : ¬ q = o := fun z => e z.symm
    simp [e2]
section
variable {P : Program} {w : World} {K : PySem.W.Frag} {mg : Str → Option Value} {base : Heap}
def spJd (cw : Addr) : Sp := fun vs H Q E => ∃ (z : Str) (a b : Addr) (l r : List Int), vs = [.str z, .ref a, .ref b] ∧ MkOk z ∧ H a = some (.lst (l.map V.int)) ∧ H b = some (.lst (r.map V.int)) ∧ l.length ≤ 300 ∧ r.length ≤ 300 ∧ (cwOk z.length l r = false → ∀ H', Same H H' → E (.ref cw) none H') ∧
  (cwOk z.length l r = true → ∀ (H' : Hp) (p : Addr), Same H H' → H p = none → H' p = some (.tup [.int (jd z l r .L), .int (jd z l r .R), .int (jd z l r .E)]) → Q (.ref p) H')
theorem scJd : FnScope ["marks", "left", "right", "places", "counts", "coin", "sign", "place", "outcome"] ["marks", "left", "right"] (defScope (top 20)) := ⟨rfl, rfl, rfl, by decide +kernel, rfl, by decide +kernel, by decide +kernel⟩
theorem p3L : p3 .L = "left" := rfl
theorem p3R : p3 .R = "right" := rfl
theorem p3E : p3 .E = "even" := rfl
theorem ok_jd {f : Addr} {fd : FuncData} {cw : Addr} (F : Fun K "judged" "judged" (top 20) f fd) (B : Blt mg) (cM : Can P w K mg base CX0 1 "check_marks" ["marks"] spCM) (cW : Can P w K mg base (CXE false P w) 3 "check_weighing" ["highest", "left", "right"] (spCwE cw))
    (cP : Can P w K mg base CX0 1 "placed" ["left", "right"] spPl) (cH : Can P w K mg base CX0 1 "may_be_heavy" ["sign"] spMayH) (cL : Can P w K mg base CX0 1 "may_be_light" ["sign"] spMayL) (cO : Can P w K mg base CX0 1 "outcome_by" ["place", "heavy"] spOut)
    (cG : Can P w K mg base CX0 1 "may_all_be_good" ["marks"] spAllG) : FnOk P w K mg base (CXE false P w) 4 f fd ["marks", "left", "right"] (spJd cw) := by
  refine F.okE scJd (fun vs H Q E h => ?_) (fun cdv A outer s H vs Q E hr h L pass => ?_)
  · obtain ⟨z, a, b, l, r, rfl, _⟩ := h; rfl
  · obtain ⟨z, a, b, l, r, rfl, M, ha, hb, hlen, hlen2, kn, k⟩ := h
    have hu := hu_of hr
    have hr1 : Room 1 _ := hr.mono (by decide)
    refine ⟨_, pss_cons (ps_expr (pe_can cM hr1 pass0 (pa_cons (pv 0) pa_nil)))
      (pss_cons (ps_expr (pe_can cW (hr.mono (by decide)) pass (pa_cons (pe_callB call_len_str (by rfl) B.len boot_lenB (pa_cons (pv 0) pa_nil)) (pa_cons (pv 1) (pa_cons (pv 2) pa_nil)))))
      (pss_cons (ps_set (i := 3) scJd.nd rfl (Or.inl rfl) (pe_can cP hr1 pass0 (pa_cons (pv 1) (pa_cons (pv 2) pa_nil))))
      (pss_cons (ps_set (i := 4) scJd.nd rfl (Or.inl rfl) (pe_disp (pps_cons pe_str pe_int (pps_cons pe_str pe_int (pps_cons pe_str pe_int pps_nil))) rfl rfl (by simp) (by decide)))
      (pss_cons (ps_for cx_own rfl (pi_enumS (by rfl) B.enum (pv 0)) (pg_tup rfl (pgs_cons (pg_name (i := 5) scJd.nd rfl (Or.inl rfl)) (pgs_cons (pg_name (i := 6) scJd.nd rfl (Or.inl rfl)) pgs_nil)))
        (pss_cons (ps_set (i := 7) scJd.nd rfl (Or.inl rfl) (pe_dget2 hu (pv 3) (pv 5) pe_str ⟨rfl, rfl, rfl, rfl⟩))
        (pss_cons (ps_if (pt_val (pe_can cH hr1 pass0 (pa_cons (pv 6) pa_nil)))
          (pss_cons (ps_set (i := 8) scJd.nd rfl (Or.inl rfl) (pe_can cO hr1 pass0 (pa_cons (pv 7) (pa_cons pe_bl pa_nil))))
          (pss_one (ps_dput hu (pv 4) (pv 8) (pe_op op_add (pe_dget hu (pv 4) (pv 8) (fun _ _ => rfl)) pe_int) rfl))) pss_nil)
        (pss_one (ps_if (pt_val (pe_can cL hr1 pass0 (pa_cons (pv 6) pa_nil)))
          (pss_cons (ps_set (i := 8) scJd.nd rfl (Or.inl rfl) (pe_can cO hr1 pass0 (pa_cons (pv 7) (pa_cons pe_bl pa_nil))))
          (pss_one (ps_dput hu (pv 4) (pv 8) (pe_op op_add (pe_dget hu (pv 4) (pv 8) (fun _ _ => rfl)) pe_int) rfl))) pss_nil)))))
      (pss_cons (ps_if (pt_val (pe_can cG hr1 pass0 (pa_cons (pv 0) pa_nil))) (pss_one (ps_dput hu (pv 4) pe_str (pe_op op_add (pe_dget hu (pv 4) pe_str (fun _ _ => rfl)) pe_int) rfl)) pss_nil)
      (pss_one (ps_ret (pe_tup (pa_cons (pe_dget hu (pv 4) pe_str (fun _ _ => rfl)) (pa_cons (pe_dget hu (pv 4) pe_str (fun _ _ => rfl)) (pa_cons (pe_dget hu (pv 4) pe_str (fun _ _ => rfl)) pa_nil))))))))))), ?_⟩
    have hz : z.length ≤ sizeLine := Nat.le_trans M.len (by decide)
    refine ⟨_, rfl, z, rfl, M, ?_⟩
    refine ⟨_, rfl, z, rfl, hz, _, rfl, _, rfl, z.length, a, b, l, r, rfl, ha, hb, hlen, hlen2, fun cok => ?_, fun cno H' s' => kn cno H' s'⟩
    intro H1 s1
    have k := k cok
    refine ⟨_, rfl, _, rfl, a, b, l, r, rfl, s1 _ _ ha, s1 _ _ hb, hlen, hlen2, fun pd pk H2 hpd s2 e2 hpl => ?_⟩
    have s02 := s1.trans s2
    have hpd0 : H pd = none := s1.free hpd
    intro cd hcd
    have hcd0 : H cd = none := s02.free hcd
    have ned : pd ≠ cd := ne_of_none e2 hcd
    refine ⟨upd_same, [(Sum.inr "left", .int 0), (Sum.inr "right", .int 0), (Sum.inr "even", .int 0)], rfl, by decide, ?_⟩
    have start0 : CSt H pd cd pk (fun _ => 0) 3 (upd (upd H2 cd (.dK [])) cd (.dK (mergeK [] [(Sum.inr "left", V.int 0), (Sum.inr "right", V.int 0), (Sum.inr "even", V.int 0)]))) := by
      rw [upd_upd]
      refine ⟨s02.put hcd0, by rw [upd_ne ned]; exact e2, _, upd_same, by decide +kernel, fun o => ?_⟩
      cases o <;> decide +kernel
    refine ⟨_, rfl, z, rfl, for_enumS (x := z) (fun i σ H4 => ∃ (v5 v6 v7 v8 : Option V), σ = [some (.str z), some (.ref a), some (.ref b), some (.ref pd), some (.ref cd), v5, v6, v7, v8] ∧ CSt H pd cd pk (fun o => cs1 l r o 0 (z.cps.toList.take i)) (3 + 2 * i) H4)
      ⟨none, none, none, none, rfl, start0⟩ ?_ ?_⟩
    · rintro i c t σ H4 hi ht ⟨v5, v6, v7, v8, rfl, C0⟩
      have hil : i < z.cps.size := (Array.getElem?_eq_some_iff.mp hi).1
      have hi100 : i < 300 := by have := M.len; have e : z.length = z.cps.size := rfl; omega
      have hic : z.cps.toList[i]? = some c := by simpa using hi
      refine ⟨t, _, rfl, SqT.of upd_same, rfl, _, _, rfl, _, _, rfl, rfl, ?_⟩
      have C1 := C0.same (Same.upd0 (o := .tup [V.int i, V.str ⟨#[c]⟩]) ht)
      obtain ⟨_, ep, _⟩ := id C1
      refine ⟨_, rfl, pd, rfl, .inl ⟨pk, .inl ep⟩, _, rfl, _, DGet.k (k := Sum.inl (i : Int)) ep, ?_⟩
      rw [show (valV pk (Sum.inl (i : Int) : Key)).getD (V.str "even") = V.str (p3 (pl l r i)) from hpl i]
      generalize hp : pl l r i = p
      have done : ∀ (v8' : Option V) (H7 : Hp), CSt H pd cd pk (fun o => cs1 l r o 0 (z.cps.toList.take i) + c1 c p o) (3 + 2 * i + 2) H7 →
          ∃ (v5 v6 v7 v8 : Option V), [some (V.str z), some (.ref a), some (.ref b), some (.ref pd), some (.ref cd), some (.int i), some (.str ⟨#[c]⟩), some (.str (p3 p)), v8'] = [some (.str z), some (.ref a), some (.ref b), some (.ref pd), some (.ref cd), v5, v6, v7, v8] ∧
            CSt H pd cd pk (fun o => cs1 l r o 0 (z.cps.toList.take (i + 1))) (3 + 2 * (i + 1)) H7 := by
        intro v8' H7 C7
        refine ⟨_, _, _, _, rfl, ?_⟩
        have ef : (fun o => cs1 l r o 0 (z.cps.toList.take (i + 1))) = fun o => cs1 l r o 0 (z.cps.toList.take i) + c1 c p o := by
          funext o
          have ht : z.cps.toList.take (i + 1) = z.cps.toList.take i ++ [c] := by rw [List.take_succ, hic]; rfl
          rw [ht, cs1_snoc]
          have hlen' : (z.cps.toList.take i).length = i := by rw [List.length_take]; simp; omega
          rw [hlen', Nat.zero_add, hp]
        rw [ef]
        exact C7
      have light : ∀ (v8' : Option V) (H5 : Hp) (g : P3 → Nat), CSt H pd cd pk g (3 + 2 * i + 1) H5 → (∀ o, g o + (if mayL c && decide (other p = o) then 1 else 0) = cs1 l r o 0 (z.cps.toList.take i) + c1 c p o) →
          tIfS (tB (tCall spMayL [] E0 (tCons (tVar 6) tNil))) (tSeq (tAsg (tCall spOut [] E0 (tCons (tVar 7) (tCons (tC (.bl false)) tNil))) (gName 8)) (sDPut (tVar 4) (tVar 8) (tOp (rI0 fun i j => .int (i + j)) (tDGet (tVar 4) (tVar 8)) (tC (.int 1))))) tNext
            { nx := fun σ H4 => ∃ (v5 v6 v7 v8 : Option V), σ = [some (.str z), some (.ref a), some (.ref b), some (.ref pd), some (.ref cd), v5, v6, v7, v8] ∧ CSt H pd cd pk (fun o => cs1 l r o 0 (z.cps.toList.take (i + 1))) (3 + 2 * (i + 1)) H4, rt := Q }
            [some (V.str z), some (.ref a), some (.ref b), some (.ref pd), some (.ref cd), some (.int i), some (.str ⟨#[c]⟩), some (.str (p3 p)), v8'] H5 := by
        intro v8' H5 g C5 hg
        refine ⟨_, rfl, c, rfl, fun H6 s6 => ⟨_, rfl, ?_⟩⟩
        have C6 := C5.same s6
        cases e2 : mayL c with
        | true =>
          refine iteT ⟨_, rfl, p, false, rfl, ?_⟩
          obtain ⟨q1, q2, kvs, q3, q4, q5⟩ := C6
          refine ⟨_, rfl, _, rfl, cd, _, rfl, by have := DGet.k (k := Sum.inr (p3 (other p))) q3; rw [q5] at this; exact this, _, _, rfl, rfl, ?_⟩
          refine ⟨_, rfl, _, rfl, cd, _, rfl, DPut.k (k := Sum.inr (p3 (other p))) q3 (small1000 (by omega)), ?_⟩
          refine done _ _ ?_
          have C7 := CSt.put (n := 3 + 2 * i + 1) hcd0 ned q1 q2 q4 q5 (other p)
          have eg : (fun o => g o + if decide (other p = o) then 1 else 0) = fun o => cs1 l r o 0 (z.cps.toList.take i) + c1 c p o := by
            funext o; rw [← hg o, e2]; rfl
          rw [eg] at C7
          exact C7
        | false =>
          refine iteF ?_
          refine done _ _ ?_
          have eg : g = fun o => cs1 l r o 0 (z.cps.toList.take i) + c1 c p o := by
            funext o; rw [← hg o, e2]; simp
          rw [← eg]
          obtain ⟨q1, q2, kvs, q3, q4, q5⟩ := C6
          exact ⟨q1, q2, kvs, q3, by omega, q5⟩
      refine ⟨_, rfl, c, rfl, fun H5 s5 => ⟨_, rfl, ?_⟩⟩
      have C2 := C1.same s5
      cases e1 : mayH c with
      | true =>
        refine iteT ⟨_, rfl, p, true, rfl, ?_⟩
        obtain ⟨q1, q2, kvs, q3, q4, q5⟩ := C2
        refine ⟨_, rfl, _, rfl, cd, _, rfl, by have := DGet.k (k := Sum.inr (p3 p)) q3; rw [q5] at this; exact this, _, _, rfl, rfl, ?_⟩
        refine ⟨_, rfl, _, rfl, cd, _, rfl, DPut.k (k := Sum.inr (p3 p)) q3 (small1000 (by omega)), ?_⟩
        refine light _ _ _ (CSt.put (n := 3 + 2 * i) hcd0 ned q1 q2 q4 q5 p) fun o => ?_
        unfold c1; rw [e1]; simp; omega
      | false =>
        refine iteF ?_
        obtain ⟨q1, q2, kvs, q3, q4, q5⟩ := C2
        refine light _ _ _ ⟨q1, q2, kvs, q3, by omega, q5⟩ fun o => ?_
        unfold c1; rw [e1]; simp
    · rintro σ H4 ⟨v5, v6, v7, v8, rfl, C0⟩
      have e0 : z.cps.toList.take z.cps.size = z.cps.toList := List.take_of_length_le (by simp)
      rw [e0] at C0
      have hsz : z.cps.size ≤ 300 := M.len
      have fin : ∀ (H5 : Hp) (n : Nat), CSt H pd cd pk (jd z l r) n H5 → n ≤ 900 →
          tRet (tTup (tCons (tDGet (tVar 4) (tC (.str "left"))) (tCons (tDGet (tVar 4) (tC (.str "right"))) (tCons (tDGet (tVar 4) (tC (.str "even"))) tNil)))) { nx := fun _ H' => Q .non H', rt := Q }
            [some (V.str z), some (.ref a), some (.ref b), some (.ref pd), some (.ref cd), v5, v6, v7, v8] H5 := by
        intro H5 n C5 _
        obtain ⟨q1, q2, kvs, q3, q4, q5⟩ := C5
        refine ⟨_, rfl, cd, .int (jd z l r .L), rfl, by have := DGet.k (k := Sum.inr "left") q3; rw [← p3L, q5] at this; exact this, ?_⟩
        refine ⟨_, rfl, cd, .int (jd z l r .R), rfl, by have := DGet.k (k := Sum.inr "right") q3; rw [← p3R, q5] at this; exact this, ?_⟩
        refine ⟨_, rfl, cd, .int (jd z l r .E), rfl, by have := DGet.k (k := Sum.inr "even") q3; rw [← p3E, q5] at this; exact this, ?_⟩
        refine ⟨by show 3 ≤ sizeLine; decide, fun t ht => ?_⟩
        exact k _ t (q1.upd ht) (q1.free ht) upd_same
      refine ⟨_, rfl, z, rfl, _, rfl, ?_⟩
      cases eG : allG z with
      | true =>
        refine iteT ?_
        obtain ⟨q1, q2, kvs, q3, q4, q5⟩ := C0
        refine ⟨_, rfl, cd, .int (cs1 l r .E 0 z.cps.toList), rfl, by have := DGet.k (k := Sum.inr "even") q3; rw [← p3E, q5] at this; exact this, _, _, rfl, rfl, ?_⟩
        refine ⟨_, rfl, cd, _, rfl, DPut.k (k := Sum.inr (p3 .E)) q3 (small1000 (by omega)), ?_⟩
        have C5 := CSt.put hcd0 ned q1 q2 q4 q5 .E
        have eg : (fun o => cs1 l r o 0 z.cps.toList + if decide (P3.E = o) then 1 else 0) = jd z l r := by
          funext o; unfold jd; rw [eG]; cases o <;> simp
        rw [eg] at C5
        exact fin _ _ C5 (by omega)
      | false =>
        refine iteF ?_
        have eg : (fun o => cs1 l r o 0 z.cps.toList) = jd z l r := by
          funext o; unfold jd; rw [eG]; simp
        rw [eg] at C0
        exact fin _ _ C0 (by omega)
end
end Ks
end
section
namespace Ks
open PySem L2 Mir
def bh (z : Str) (l r : List Int) (o : P3) : Str := ⟨(aft l r o 0 z.cps.toList).toArray⟩
theorem str_ext {a b : Str} (h : a.cps.toList = b.cps.toList) : a = b := by
  obtain ⟨⟨a⟩⟩ := a; obtain ⟨⟨b⟩⟩ := b; simp at h; rw [h]
theorem app_cps (a b : Str) : (a ++ b).cps.toList = a.cps.toList ++ b.cps.toList := by
  show (a.cps ++ b.cps).toList = _
  simp
theorem join0 : ∀ l : List Str, (Str.join "" l).cps.toList = (l.map fun x => x.cps.toList).flatten
  | [] => rfl
  | [x] => by simp [Str.join]
  | x :: y :: r => by
    rw [PyProof.Rows.join_cons_cons, app_cps, app_cps, join0 (y :: r)]
    simp; rfl
theorem join_ones (cs : List Nat) : Txt.join "" (cs.map ch1) = ⟨cs.toArray⟩ := by
  show Builtin.Str.glued "" (cs.map ch1) = _
  rw [PySem.StrLaws.glued_eq_join]
  refine str_ext ?_
  rw [join0]
  show _ = cs
  induction cs with
  | nil => rfl
  | cons c cs ih => simp at ih ⊢; exact ih
theorem sum_ones (cs : List Nat) : ((cs.map ch1).map (·.length)).sum = cs.length := by
  induction cs with
  | nil => rfl
  | cons c cs ih => simp at ih ⊢; rw [ih]; show 1 + _ = _; omega
section
variable {P : Program} {w : World} {K : PySem.W.Frag} {mg : Str → Option Value} {base : Heap}
end
end Ks
end
section
namespace Ks
open PySem L2 Mir
section
variable {P : Program} {w : World} {K : PySem.W.Frag} {mg : Str → Option Value} {base : Heap}
def cellF (ns : List Int) (k : Int) : Int := ns.getD k.toNat 0
def spCell (K : PySem.W.Frag) : Sp := fun vs H Q _ => ∃ (a : Addr) (ns : List Int) (k : Int), vs = [.ref a, .int k] ∧ SqL K H a (ns.map V.int) ∧ 0 ≤ k ∧ Q (.int (cellF ns k)) H
theorem sc__law_cell_at : FnScope ["_law_script", "_law_k"] ["_law_script", "_law_k"] (defScope (top 35)) := ⟨rfl, rfl, rfl, by decide +kernel, rfl, by decide +kernel, by decide +kernel⟩
theorem ok_cell {f : Addr} {fd : FuncData} (F : Fun K "_law_cell_at" "_law_cell_at" (top 35) f fd) (B : Blt mg) : FnOk P w K mg base CX0 1 f fd ["_law_script", "_law_k"] (spCell K) := by
  refine F.ok sc__law_cell_at (fun vs H Q E h => ?_) (fun cdv A outer s H vs Q E hr h => ?_)
  · obtain ⟨a, ns, k, rfl, _⟩ := h; rfl
  · obtain ⟨a, ns, k, rfl, ha, hk, q⟩ := h
    refine ⟨_, (pss_cons (ps_if (pt_cmpR op_lt (pv 1) (pe_callB call_len_seq (by rfl) B.len boot_lenB (pa_cons (pv 0) pa_nil)) (nomark _)) (pss_one (ps_ret (pe_ix ix_list (pv 0) (pv 1) (fun _ _ => rfl)))) pss_nil)
      (pss_one (ps_ret pe_int))), ?_⟩
    refine ⟨_, rfl, _, rfl, a, _, rfl, .inl ha, _, _, rfl, rfl, _, rfl, ?_⟩
    by_cases h : k < ((ns.map V.int).length : Int)
    · refine tru (decide_eq_true h) ?_
      have hn : k.toNat < ns.length := by simp at h; omega
      have e : cellF ns k = ns[k.toNat] := by unfold cellF; simp [List.getD, hn]
      rw [e] at q
      refine ⟨_, rfl, _, rfl, a, _, _, .int ns[k.toNat], rfl, rfl, ha, ?_, q⟩
      have := atI_nat (xs := ns.map V.int) (j := k.toNat) (v := V.int ns[k.toNat]) (by simp [hn])
      rw [Int.toNat_of_nonneg hk] at this
      exact this
    · have e : cellF ns k = 0 := by unfold cellF; simp at h; simp [List.getD, show ns.length ≤ k.toNat by omega]
      rw [e] at q
      exact fls (decide_eq_false h) q
def primes : List Int := [1000003, 1000033, 1000037, 1000039, 1000081, 1000099, 1000117, 1000121, 1000133, 1000151, 1000159, 1000171, 1000183, 1000187, 1000193, 1000199]
def drawF (c k m : Int) : Int := (c * 48271 + k * 69621) % (primes.getD (k % 16).toNat 0) % m
theorem drawF_nonneg {c k m : Int} (h : 0 < m) : 0 ≤ drawF c k m := Int.emod_nonneg _ (by omega)
theorem drawF_lt {c k m : Int} (h : 0 < m) : drawF c k m < m := Int.emod_lt_of_pos _ h
def spDraw : Sp := fun vs H Q _ => ∃ (c k m : Int), vs = [.int c, .int k, .int m] ∧ 0 ≤ k ∧ 0 < m ∧ ∀ (H' : Hp), Same H H' → Q (.int (drawF c k m)) H'
theorem sc__law_draw : FnScope ["_law_cell", "_law_k", "_law_many", "_law_primes"] ["_law_cell", "_law_k", "_law_many"] (defScope (top 36)) := ⟨rfl, rfl, rfl, by decide +kernel, rfl, by decide +kernel, by decide +kernel⟩
def primesE : List Expr := [.Constant (.int 1000003) 0 ⟨167, 19, 167, 26⟩, .Constant (.int 1000033) 0 ⟨167, 28, 167, 35⟩, .Constant (.int 1000037) 0 ⟨167, 37, 167, 44⟩, .Constant (.int 1000039) 0 ⟨167, 46, 167, 53⟩, .Constant (.int 1000081) 0 ⟨167, 55, 167, 62⟩, .Constant (.int 1000099) 0 ⟨167, 64, 167, 71⟩, .Constant (.int 1000117) 0 ⟨167, 73, 167, 80⟩, .Constant (.int 1000121) 0 ⟨167, 82, 167, 89⟩, .Constant (.int 1000133) 0 ⟨167, 91, 167, 98⟩, .Constant (.int 1000151) 0 ⟨167, 100, 167, 107⟩, .Constant (.int 1000159) 0 ⟨167, 109, 167, 116⟩, .Constant (.int 1000171) 0 ⟨167, 118, 167, 125⟩, .Constant (.int 1000183) 0 ⟨167, 127, 167, 134⟩, .Constant (.int 1000187) 0 ⟨167, 136, 167, 143⟩, .Constant (.int 1000193) 0 ⟨167, 145, 167, 152⟩, .Constant (.int 1000199) 0 ⟨167, 154, 167, 161⟩]
theorem primesE_is : primesE.map conV = (primes.map V.int).map some := by kernel_rfl
theorem pa_primes {X : Cx} : PA X primesE (tVs (primes.map V.int)) := @pa_vs X (primes.map V.int) primesE primesE_is
theorem pe_primes {X : Cx} {k : Nat} {p : Pos} : PE X (.Tuple primesE k p) (tTup (tVs (primes.map V.int))) := by
  have h := @pa_primes X
  revert h
  generalize primesE = es
  intro h
  exact pe_tup h
theorem pss_primes {X : Cx} {rest : List Stmt} {u : TS} {k : Nat} {p p1 p2 : Pos} (hN : X.N.Nodup) (hi : X.N[3]? = some ("_law_primes" : Str)) (hx : X.env.scope.names.lookup ("_law_primes" : Str) = some .local) (hs : swapsWith (.Tuple primesE k p) (some (.Name "_law_primes" p1)) p2.line X.env = pure false) (hr : PSs X rest u) :
    PSs X (.Assign [.Name "_law_primes" p1] (.Tuple primesE k p) p2 :: rest) (tSeq (tAsg (tTup (tVs (primes.map V.int))) (gName 3)) u) := by
  have h := @pe_primes X k p
  revert h hs
  generalize primesE = es
  intro hs h
  exact pss_cons (ps_set hN hi (.inl hx) h hs (.inr hx)) hr
theorem primes_at (i : Nat) (h : i < 16) : (primes.map V.int)[i]? = some (.int (primes.getD i 0)) ∧ 0 < primes.getD i 0 := by
  have hl : i < primes.length := h
  have e : primes.getD i 0 = primes[i] := by simp [List.getD, hl]
  rw [e]
  refine ⟨by rw [List.getElem?_map, List.getElem?_eq_getElem hl]; rfl, ?_⟩
  have ha : primes.all (fun p => decide (0 < p)) = true := by decide +kernel
  exact of_decide_eq_true (List.all_eq_true.mp ha _ (List.getElem_mem hl))
theorem ok_draw {f : Addr} {fd : FuncData} (F : Fun K "_law_draw" "_law_draw" (top 36) f fd) : FnOk P w K mg base CX0 1 f fd ["_law_cell", "_law_k", "_law_many"] spDraw := by
  refine F.ok sc__law_draw (fun vs H Q E h => ?_) (fun cdv A outer s H vs Q E hr h => ?_)
  · obtain ⟨c, k, m, rfl, _⟩ := h; rfl
  · obtain ⟨c, k, m, rfl, hk, hm, q⟩ := h
    refine ⟨_, @pss_primes _ _ _ _ _ _ _ sc__law_draw.nd rfl rfl (by kernel_rfl) (pss_one (ps_ret (pe_op op_mod (pe_op op_mod (pe_op op_add (pe_op op_mul (pv 0) pe_int) (pe_op op_mul (pv 1) pe_int)) (pe_ix ix_tup (pv 3) (pe_op op_mod (pv 1) pe_int) (fun _ _ => rfl))) (pv 2)))), ?_⟩
    refine ⟨by show 16 ≤ sizeLine; decide, fun t ht => ?_⟩
    have h16 : 0 ≤ k % 16 ∧ k % 16 < 16 := ⟨Int.emod_nonneg _ (by decide), Int.emod_lt_of_pos _ (by decide)⟩
    obtain ⟨hp1, hp2⟩ := primes_at (k % 16).toNat (by omega)
    have hat := atI_nat hp1
    rw [Int.toNat_of_nonneg h16.1] at hat
    refine ⟨_, rfl, _, _, rfl, rfl, .inr ⟨by decide, by decide⟩, _, rfl, _, _, rfl, rfl, .inr ⟨by decide, by decide⟩, _, _, rfl, rfl, _, rfl, _, rfl, _, _, rfl, rfl, (by show (0 : Int) < 16; decide), t, primes.map V.int, _, _, rfl, rfl, SqT.of upd_same, hat, _, _, rfl, rfl, hp2, _, rfl, _, _, rfl, rfl, hm, ?_⟩
    exact q _ (Same.upd0 ht)
end
end Ks
end
section
namespace Ks
open PySem L2 Mir
def sgns : List Str := ["eeeg", "hlg", "hhhl", "eg", "gggl"]
def signsF (ns : List Int) : Str := sgns.getD (drawF (cellF ns 0) 6 5).toNat "eg"
def markF (ns : List Int) (i : Nat) : Nat := (signsF ns).cps.getD (drawF (ns.getD i 0) (i % 5 + 1) (signsF ns).length).toNat 0
def marksF (ns : List Int) : Str := ⟨((List.range ns.length).map (markF ns)).toArray⟩
theorem signsF_mem (ns : List Int) : signsF ns ∈ sgns := by
  unfold signsF
  have h1 := drawF_nonneg (c := cellF ns 0) (k := 6) (m := 5) (by decide)
  have h2 := drawF_lt (c := cellF ns 0) (k := 6) (m := 5) (by decide)
  have hl : (drawF (cellF ns 0) 6 5).toNat < sgns.length := by show _ < 5; omega
  simp only [List.getD, List.getElem?_eq_getElem hl, Option.getD_some]
  exact List.getElem_mem hl
theorem signs_all {x : Str} (h : x ∈ sgns) : 0 < x.length ∧ x.length ≤ 10 ∧ (∀ c ∈ x.cps.toList, Sign c) ∧ (101 ∈ x.cps.toList → 104 ∉ x.cps.toList ∧ 108 ∉ x.cps.toList) := by
  have : ∀ x ∈ sgns, (decide (0 < x.length) && decide (x.length ≤ 10) && x.cps.toList.all (fun c => c == 101 || c == 104 || c == 108 || c == 103) && (!x.cps.toList.contains 101 || (!x.cps.toList.contains 104 && !x.cps.toList.contains 108))) = true := by decide +kernel
  have q := this x h
  simp only [Bool.and_eq_true, decide_eq_true_eq, List.all_eq_true, Bool.or_eq_true, beq_iff_eq, Bool.not_eq_true', List.contains_eq_mem, decide_eq_false_iff_not] at q
  obtain ⟨⟨⟨a, b⟩, c⟩, d⟩ := q
  refine ⟨a, b, fun e he => ?_, fun he => ?_⟩
  · rcases c e he with ((z | z) | z) | z
    · exact .inl z
    · exact .inr (.inl z)
    · exact .inr (.inr (.inl z))
    · exact .inr (.inr (.inr z))
  · rcases d with z | z
    · exact absurd he z
    · exact z
theorem markF_mem (ns : List Int) (i : Nat) : markF ns i ∈ (signsF ns).cps.toList := by
  obtain ⟨a, b, _⟩ := signs_all (signsF_mem ns)
  unfold markF
  have h1 := drawF_nonneg (c := ns.getD i 0) (k := i % 5 + 1) (m := (signsF ns).length) (by omega)
  have h2 := drawF_lt (c := ns.getD i 0) (k := i % 5 + 1) (m := (signsF ns).length) (by omega)
  have hl : (drawF (ns.getD i 0) (i % 5 + 1) (signsF ns).length).toNat < (signsF ns).cps.size := by
    show _ < (signsF ns).length
    omega
  simp only [Array.getD, hl, dite_true]
  exact Array.getElem_mem_toList hl
theorem marksF_len (ns : List Int) : (marksF ns).length = ns.length := by
  show (marksF ns).cps.size = _
  simp [marksF]
theorem marksF_ok {ns : List Int} (h : ns.length ≤ 100) : MkOk (marksF ns) := by
  obtain ⟨_, _, hs, hx⟩ := signs_all (signsF_mem ns)
  have mem : ∀ c ∈ (marksF ns).cps.toList, c ∈ (signsF ns).cps.toList := fun c hc => by
    have : c ∈ (List.range ns.length).map (markF ns) := hc
    obtain ⟨i, _, rfl⟩ := List.mem_map.mp this
    exact markF_mem ns i
  refine ⟨fun c hc => hs c (mem c hc), fun he => ?_, by rw [marksF_len]; omega⟩
  obtain ⟨a, b⟩ := hx (mem _ he)
  exact ⟨fun z => a (mem _ z), fun z => b (mem _ z)⟩
section
variable {P : Program} {w : World} {K : PySem.W.Frag} {mg : Str → Option Value} {base : Heap}
def spMarks (K : PySem.W.Frag) : Sp := fun vs H Q _ => ∃ (a : Addr) (ns : List Int), vs = [.ref a] ∧ SqL K H a (ns.map V.int) ∧ ns.length ≤ 63 ∧ ∀ H', Same H H' → Q (.str (marksF ns)) H'
theorem sc__law_marks : FnScope ["_law_script", "_law_kind", "_law_signs"] ["_law_script"] (defScope (top 37)) := ⟨rfl, rfl, rfl, by decide +kernel, rfl, by decide +kernel, by decide +kernel⟩
theorem ok_marks {f : Addr} {fd : FuncData} (F : Fun K "_law_marks" "_law_marks" (top 37) f fd) (B : Blt mg) (c__law_cell_at : Can P w K mg base CX0 1 "_law_cell_at" ["_law_script", "_law_k"] (spCell K)) (c__law_draw : Can P w K mg base CX0 1 "_law_draw" ["_law_cell", "_law_k", "_law_many"] spDraw) :
    FnOk P w K mg base CX0 2 f fd ["_law_script"] (spMarks K) := by
  refine F.ok sc__law_marks (fun vs H Q E h => ?_) (fun cdv A outer s H vs Q E hr h => ?_)
  · obtain ⟨a, ns, rfl, _⟩ := h; rfl
  · obtain ⟨a, ns, rfl, ha, hn, q⟩ := h
    refine ⟨_, (pss_cons (ps_set (i := 1) sc__law_marks.nd rfl (Or.inl rfl) (pe_can c__law_draw (hr.mono (by decide)) pass0 (pa_cons (pe_can c__law_cell_at (hr.mono (by decide)) pass0 (pa_cons (pv 0) (pa_cons pe_int pa_nil))) (pa_cons pe_int (pa_cons pe_int pa_nil)))))
      (pss_cons (ps_set (i := 2) sc__law_marks.nd rfl (Or.inr rfl) (pe_ix ix_tup (pe_tup (pa_cons pe_str (pa_cons pe_str (pa_cons pe_str (pa_cons pe_str (pa_cons pe_str pa_nil)))))) (pv 1) (fun _ _ => rfl)))
      (pss_one (ps_ret (pe_bm PySem.F.plainAttrs_str PySem.F.slot_str_join PySem.F.type_str_join mt_join pe_str (pa_cons (pe_comp (N := ["_law_script", "_law_kind", "_law_signs"]) (sc0 := defScope (top 37)) ["_law_k"] ["_law_signs", "_law_script"] [2, 0] rfl rfl rfl ⟨rfl, by decide +kernel, by decide +kernel, by decide +kernel, rfl, by decide +kernel⟩ (pi_range1 (by rfl) B.range (pa_cons (pe_callB call_len_seq (by rfl) B.len boot_lenB (pa_cons (pv 0) pa_nil)) pa_nil)) (fun _ _ _ _ => (pg_name (i := 0) (by decide +kernel : (["_law_k", "_law_signs", "_law_script"] : List Str).Nodup) rfl (Or.inl rfl) (.inr rfl))) (fun _ _ _ _ => (pe_ix ix_str (pv 1) (pe_can c__law_draw (hr.mono (by decide)) pass0 (pa_cons (pe_ix (ix_listK (K := K) rfl) (pv 2) (pv 0) (fun _ _ => rfl)) (pa_cons (pe_op op_add (pe_op op_mod (pv 0) pe_int) pe_int) (pa_cons (pe_callB call_len_str (by rfl) B.len boot_lenB (pa_cons (pv 1) pa_nil)) pa_nil)))) (fun _ _ => rfl)))) pa_nil)))))), ?_⟩
    refine ⟨_, rfl, a, ns, 0, rfl, ha, by decide, _, 6, 5, rfl, by decide, by decide, fun H1 s1 => ?_⟩
    have h1 := drawF_nonneg (c := cellF ns 0) (k := 6) (m := 5) (by decide)
    have h2 := drawF_lt (c := cellF ns 0) (k := 6) (m := 5) (by decide)
    refine ⟨by show 5 ≤ sizeLine; decide, fun t ht => ?_⟩
    have hat : atI (sgns.map V.str) (drawF (cellF ns 0) 6 5) = some (.str (signsF ns)) := by
      have hl : (drawF (cellF ns 0) 6 5).toNat < sgns.length := by show _ < 5; omega
      have := atI_nat (xs := sgns.map V.str) (j := (drawF (cellF ns 0) 6 5).toNat) (v := .str (signsF ns)) (by rw [List.getElem?_map, List.getElem?_eq_getElem hl]; unfold signsF; simp [List.getD, hl])
      rw [Int.toNat_of_nonneg h1] at this
      exact this
    refine ⟨_, rfl, t, sgns.map V.str, _, _, rfl, rfl, SqT.of upd_same, hat, ?_⟩
    obtain ⟨g1, g2, _, _⟩ := signs_all (signsF_mem ns)
    have z1 : (signsF ns).length ≤ sizeLine := Nat.le_trans g2 (by decide)
    refine ⟨rfl, _, rfl, a, _, rfl, .inl ((s1.upd ht).seq ha), (ns.length : Int), by simp, by omega, by omega, fun p hp => ?_⟩
    refine comp_range (lo := 0) (n := ns.length) hp (Nat.lt_of_le_of_lt hn (by decide)) (fun i => V.str (ch1 (markF ns i))) (fun σ' => ∃ v0, σ' = [v0, some (.str (signsF ns)), some (.ref a)]) ?_ ?_ ?_
    · exact ⟨none, rfl⟩
    · rintro i σ' H' hi ⟨v0, rfl⟩ sm KK kk
      have hd := drawF_nonneg (c := ns.getD i 0) (k := i % 5 + 1) (m := (signsF ns).length) (by omega)
      have hd2 := drawF_lt (c := ns.getD i 0) (k := i % 5 + 1) (m := (signsF ns).length) (by omega)
      have ha' : SqL K H' a (ns.map V.int) := sm.seq ((s1.upd ht).seq ha)
      have hat2 : atI (ns.map V.int) (0 + (i : Int)) = some (.int (ns.getD i 0)) := by
        rw [Int.zero_add]
        exact atI_nat (by rw [List.getElem?_map, List.getElem?_eq_getElem hi]; simp [List.getD, hi])
      refine ⟨_, rfl, _, rfl, _, rfl, a, _, _, _, rfl, rfl, ha', hat2, _, rfl, _, _, rfl, rfl, (by show (0 : Int) < 5; decide), _, _, rfl, rfl, _, rfl, _, rfl, z1, _, _, _, rfl, ?_, ?_, fun H4 s4 => ?_⟩
      · rw [Int.zero_add]; omega
      · omega
      · have hc : atI (signsF ns).cps.toList (drawF (ns.getD i 0) ((0 + (i : Int)) % 5 + 1) ((signsF ns).length : Int)) = some (markF ns i) := by
          rw [Int.zero_add]
          have hl : (drawF (ns.getD i 0) (i % 5 + 1) (signsF ns).length).toNat < (signsF ns).cps.size := by
            show _ < (signsF ns).length
            omega
          have := atI_nat (xs := (signsF ns).cps.toList) (j := (drawF (ns.getD i 0) (i % 5 + 1) (signsF ns).length).toNat) (v := markF ns i) (by unfold markF; rw [Array.getElem?_toList, Array.getElem?_eq_getElem hl]; simp only [Array.getD, hl, dite_true]; rfl)
          rw [Int.toNat_of_nonneg hd] at this
          exact this
        refine ⟨_, _, _, rfl, rfl, z1, hc, ?_⟩
        exact kk [some (.int (0 + (i : Int))), some (.str (signsF ns)), some (.ref a)] H4 ⟨_, rfl⟩ s4
    · intro H' sm hq
      have e3 : (List.range ns.length).map (fun i => V.str (ch1 (markF ns i))) = (((List.range ns.length).map (markF ns)).map ch1).map V.str := by
        rw [List.map_map, List.map_map]; rfl
      rw [e3] at hq
      refine ⟨_, p, _, rfl, rfl, SqL.of hq, ?_, ?_⟩
      · rw [sum_ones, List.length_map, List.length_map, List.length_range]
        show _ + _ * 0 ≤ _
        omega
      · rw [join_ones]
        exact q H' ((s1.upd ht).trans sm)
end
end Ks
end
section
namespace Ks
open PySem L2 Mir
def sideB (n : Int) (l : List Int) : Bool := l.all (fun k => decide (0 ≤ k) && decide (k ≤ n)) && decide (l.Pairwise (· < ·))
def wgB (n : Int) (l r : List Int) : Bool := sideB n l && (sideB n r && (decide (l.length = r.length) && !(l.any fun k => decide (k ∈ r))))
theorem sideB_iff {n : Int} {l : List Int} : sideB n l = true ↔ (∀ k ∈ l, 0 ≤ k ∧ k ≤ n) ∧ l.Pairwise (· < ·) := by
  unfold sideB
  simp
theorem wgB_iff {n : Int} {l r : List Int} : wgB n l r = true ↔ Wg n l r := by
  unfold wgB
  rw [Bool.and_eq_true, Bool.and_eq_true, Bool.and_eq_true, sideB_iff, sideB_iff]
  constructor
  · rintro ⟨⟨a1, a2⟩, ⟨b1, b2⟩, c, d⟩
    refine ⟨a2, b2, a1, b1, of_decide_eq_true c, fun k h1 h2 => ?_⟩
    have : (l.any fun k => decide (k ∈ r)) = true := List.any_eq_true.mpr ⟨k, h1, decide_eq_true h2⟩
    rw [this] at d; cases d
  · intro W
    refine ⟨⟨W.inL, W.risL⟩, ⟨W.inR, W.risR⟩, decide_eq_true W.len, ?_⟩
    have : (l.any fun k => decide (k ∈ r)) = false := by
      refine List.any_eq_false.mpr fun k hk h => ?_
      exact W.dis k hk (of_decide_eq_true h)
    rw [this]; rfl
theorem flat_ints (l : List Int) : (l.map V.int).all flatV = true := by
  rw [List.all_eq_true]; intro x hx
  obtain ⟨k, _, rfl⟩ := List.mem_map.mp hx; rfl
theorem inV_ints (k : Int) : ∀ (l : List Int), inV (.int k) (l.map V.int) = decide (k ∈ l)
  | [] => by simp [inV]
  | x :: l => by
    have ih := inV_ints k l
    unfold inV at ih ⊢
    simp only [List.map_cons, List.any_cons]
    rw [ih]
    show ((x == k) || _) = _
    by_cases h : k = x
    · subst h; simp
    · have : (x == k) = false := beq_eq_false_iff_ne.mpr fun z => h z.symm
      rw [this]; simp [h]
theorem sorted_is {l ms ks : List Int} (h1 : ∀ y, y ∈ ms ↔ y ∈ l) (h2 : ms.Nodup) (h3 : List.Perm ks ms) (h4 : ks.Pairwise (· ≤ ·)) : decide (l = ks) = decide (l.Pairwise (· < ·)) := by
  by_cases h : l.Pairwise (· < ·)
  · rw [decide_eq_true h]
    refine decide_eq_true (rise_ext h h4 (h3.nodup_iff.mpr h2) fun y => ?_).symm
    rw [h3.mem_iff, h1]
  · rw [decide_eq_false h]
    refine decide_eq_false fun e => h ?_
    subst e
    have nd : l.Nodup := h3.nodup_iff.mpr h2
    rw [List.Nodup, ] at nd
    exact List.Pairwise.imp₂ (fun a b hab hne => by omega) h4 nd
section
variable {P : Program} {w : World} {K : PySem.W.Frag} {mg : Str → Option Value} {base : Heap}
theorem boot_anyB : bootBuiltins "any" = some (.builtin "any") := by decide +kernel
theorem boot_allB : bootBuiltins "all" = some (.builtin "all") := by decide +kernel
def spWg : Sp := fun vs H Q _ => ∃ (n : Int) (a b : Addr) (l r : List Int), vs = [.int n, .ref a, .ref b] ∧ H a = some (.lst (l.map V.int)) ∧ H b = some (.lst (r.map V.int)) ∧ l.length < 128 ∧ r.length < 128 ∧ ∀ H', Same H H' → Q (.bl (wgB n l r)) H'
theorem sc__law_weighing : FnScope ["_law_coins", "_law_left_here", "_law_right_here", "_law_side"] ["_law_coins", "_law_left_here", "_law_right_here"] (defScope (top 39)) := ⟨rfl, rfl, rfl, by decide +kernel, rfl, by decide +kernel, by decide +kernel⟩
theorem ok_wg {f : Addr} {fd : FuncData} (F : Fun K "_law_weighing" "_law_weighing" (top 39) f fd) (B : Blt mg) : FnOk P w K mg base CX0 1 f fd ["_law_coins", "_law_left_here", "_law_right_here"] spWg := by
  refine F.ok sc__law_weighing (fun vs H Q E h => ?_) (fun cdv A outer s H vs Q E hr h => ?_)
  · obtain ⟨n, a, b, l, r, rfl, _⟩ := h; rfl
  · obtain ⟨n, a, b, l, r, rfl, ha, hb, hl, hrr, q⟩ := h
    have hu : _ < cLine := Nat.lt_of_succ_lt (hu_of hr)
    refine ⟨_, (pss_cons (ps_for PassesOwn.never rfl (pi_tup (pe_tup (pa_cons (pv 1) (pa_cons (pv 2) pa_nil)))) (pg_name (i := 3) sc__law_weighing.nd rfl (Or.inl rfl)) (pss_one (ps_if (PW.pt (pw_or (pt_val (pe_callB (call_anyL rfl) (by rfl) B.any boot_anyB (pa_cons (pe_comp (N := ["_law_coins", "_law_left_here", "_law_right_here", "_law_side"]) (sc0 := defScope (top 39)) ["_law_coin"] ["_law_coins"] [0] rfl rfl rfl ⟨rfl, by decide +kernel, by decide +kernel, by decide +kernel, rfl, by decide +kernel⟩ (pi_list (pv 3)) (fun _ _ _ _ => (pg_name (i := 0) (by decide +kernel : (["_law_coin", "_law_coins"] : List Str).Nodup) rfl (Or.inl rfl) (.inr rfl))) (fun _ _ _ _ => (pe_not (pe_chain op_le op_le pe_int (pv 0) (pv 1))))) pa_nil))) (pw_or1 (pt_cmpR (op_neL hu) (pv 3) (pe_callB (call_sortedS2 rfl) (by rfl) B.sorted boot_sortedB (pa_cons (pe_callTy (call_setL rfl) (by rfl) B.set boot_setT (pa_cons (pv 3) pa_nil)) pa_nil)) (nomark _))))) (pss_one (ps_ret pe_bl)) pss_nil)))
      (pss_one (ps_ret (pe_and (pe_cmpR op_eq (pe_callB call_len_seq (by rfl) B.len boot_lenB (pa_cons (pv 1) pa_nil)) (pe_callB call_len_seq (by rfl) B.len boot_lenB (pa_cons (pv 2) pa_nil)) (nomark _)) (pe_one (pe_not (pe_callB (call_anyL rfl) (by rfl) B.any boot_anyB (pa_cons (pe_comp (N := ["_law_coins", "_law_left_here", "_law_right_here", "_law_side"]) (sc0 := defScope (top 39)) ["_law_coin"] ["_law_right_here"] [2] rfl rfl rfl ⟨rfl, by decide +kernel, by decide +kernel, by decide +kernel, rfl, by decide +kernel⟩ (pi_list (pv 1)) (fun _ _ _ _ => (pg_name (i := 0) (by decide +kernel : (["_law_coin", "_law_right_here"] : List Str).Nodup) rfl (Or.inl rfl) (.inr rfl))) (fun _ _ _ _ => (pe_cmpR (op_in_seqK (K := K) rfl) (pv 0) (pv 1) rfl))) pa_nil)))))))), ?_⟩
    refine ⟨_, rfl, _, rfl, by show 2 ≤ sizeLine; decide, fun t ht => ⟨t, rfl, ⟨_, SqT.of upd_same⟩, ?_⟩⟩
    refine for_tup (K := K) (a := t) (xs := [.ref a, .ref b]) (fun i σ H2 => Same (upd H t (.tup [.ref a, .ref b])) H2 ∧ (∃ v, σ = [some (.int n), some (.ref a), some (.ref b), v]) ∧ (1 ≤ i → sideB n l = true) ∧ (2 ≤ i → sideB n r = true)) ?_ ?_ ?_ ?_
    · exact ⟨Same.refl _, ⟨none, rfl⟩, fun h => by omega, fun h => by omega⟩
    · rintro i σ H2 _ ⟨sm, _⟩
      exact SqT.of (sm _ _ upd_same)
    · rintro i x σ H2 hx ⟨sm, ⟨v, rfl⟩, o1, o2⟩
      obtain ⟨c, m, rfl, hc, hm, hnext, hstop⟩ : ∃ (c : Addr) (m : List Int), x = .ref c ∧ H2 c = some (.lst (m.map V.int)) ∧ m.length < 128 ∧ (sideB n m = true → (1 ≤ i + 1 → sideB n l = true) ∧ (2 ≤ i + 1 → sideB n r = true)) ∧ (sideB n m = false → wgB n l r = false) := by
        have ea : H2 a = some (.lst (l.map V.int)) := sm _ _ (by rw [upd_ne (ne_of_none ha ht)]; exact ha)
        have eb : H2 b = some (.lst (r.map V.int)) := sm _ _ (by rw [upd_ne (ne_of_none hb ht)]; exact hb)
        match i, hx with
        | 0, hx => cases hx; exact ⟨a, l, rfl, ea, hl, fun h => ⟨fun _ => h, fun h => by omega⟩, fun h => by unfold wgB; rw [h]; rfl⟩
        | 1, hx => cases hx; exact ⟨b, r, rfl, eb, hrr, fun h => ⟨fun _ => o1 (by omega), fun _ => h⟩, fun h => by unfold wgB; rw [h]; simp⟩
        | i + 2, hx => simp at hx
      have fin : ∀ H3 (ok : Bool), Same H2 H3 → sideB n m = ok → (ok = false → Q (.bl (wgB n l r)) H3) := fun H3 ok s3 e1 e2 => q H3 ((Same.upd0 ht).trans (sm.trans s3))
      refine ⟨_, rfl, c, rfl, ⟨_, SqL.of hc⟩, fun p hp => ?_⟩
      refine comp_list (xs := m.map V.int) hp hc (by simp; exact Nat.lt_trans hm (by decide)) (fun x => match x with | .int k => .bl (!(decide (0 ≤ k) && decide (k ≤ n))) | _ => .non) (fun σ' => ∃ v0, σ' = [v0, some (.int n)]) ?_ ?_ ?_
      · exact ⟨none, rfl⟩
      · rintro j x σ' H' hj ⟨v0, rfl⟩ sm' KK kk
        obtain ⟨k, hk, rfl⟩ := ints_at hj
        refine ⟨_, rfl, 0, k, rfl, rfl, _, rfl, ?_⟩
        have kk' := kk [some (.int k), some (.int n)] H' ⟨_, rfl⟩ (Same.refl _)
        by_cases h0 : 0 ≤ k
        · refine tru (decide_eq_true h0) ⟨_, rfl, k, n, rfl, rfl, _, rfl, ?_⟩
          simp only [decide_eq_true h0, Bool.true_and] at kk'
          exact kk'
        · refine fls (decide_eq_false h0) ⟨_, rfl, ?_⟩
          simp only [decide_eq_false h0, Bool.false_and] at kk'
          exact kk'
      · intro H3 s3 hq
        have e3 : (m.map V.int).map (fun x => match x with | .int k => V.bl (!(decide (0 ≤ k) && decide (k ≤ n))) | _ => .non) = (m.map fun k => !(decide (0 ≤ k) && decide (k ≤ n))).map V.bl := by
          rw [List.map_map, List.map_map]; rfl
        rw [e3] at hq
        refine ⟨p, _, rfl, hq, _, rfl, ?_⟩
        have any_is : (m.map fun k => !(decide (0 ≤ k) && decide (k ≤ n))).any id = !(m.all fun k => decide (0 ≤ k) && decide (k ≤ n)) := by
          rw [List.any_map, List.not_all_eq_any_not]; rfl
        rw [any_is]
        cases hall : m.all (fun k => decide (0 ≤ k) && decide (k ≤ n)) with
        | false =>
          refine iteT (iteT ?_)
          have e : sideB n m = false := by unfold sideB; rw [hall]; rfl
          have := q H3 ((Same.upd0 ht).trans (sm.trans s3))
          rw [hstop e] at this
          exact this
        | true =>
          refine iteF ?_
          refine ⟨_, rfl, _, rfl, c, m, rfl, SqL.of (s3 _ _ hc), by omega, fun p1 ms hp1 m1 nd1 => ?_⟩
          have hlen : ms.length < 128 := by
            have := List.Nodup.length_le_of_subset nd1 (fun y hy => (m1 y).mp hy)
            omega
          refine ⟨p1, ms, rfl, upd_same, hlen, fun p2 ks hp2 perm srt => ?_⟩
          have c2 : upd (upd H3 p1 (SetO w p1 ms)) p2 (.lst (ks.map V.int)) c = some (.lst (m.map V.int)) := by
            have e1 : upd H3 p1 (SetO w p1 ms) c = some (.lst (m.map V.int)) := by rw [upd_ne (ne_of_none (s3 _ _ hc) hp1)]; exact s3 _ _ hc
            rw [upd_ne (ne_of_none e1 hp2)]; exact e1
          refine ⟨c, p2, _, _, rfl, rfl, SqL.of c2, SqL.of upd_same, flat_ints m, flat_ints ks, _, rfl, ?_⟩
          rw [L2.eqVs_ints, sorted_is m1 nd1 perm srt]
          have sF : Same H2 (upd (upd H3 p1 (SetO w p1 ms)) p2 (.lst (ks.map V.int))) := (s3.upd hp1).upd hp2
          by_cases hpw : m.Pairwise (· < ·)
          · rw [decide_eq_true hpw]
            refine iteF ?_
            have e : sideB n m = true := by unfold sideB; rw [hall, decide_eq_true hpw]; rfl
            obtain ⟨n1, n2⟩ := hnext e
            exact ⟨sm.trans sF, ⟨_, rfl⟩, n1, n2⟩
          · rw [decide_eq_false hpw]
            refine iteT ?_
            have e : sideB n m = false := by unfold sideB; rw [hall, decide_eq_false hpw]; rfl
            have := q _ ((Same.upd0 ht).trans (sm.trans sF))
            rw [hstop e] at this
            exact this
    · rintro σ H2 ⟨sm, ⟨v, rfl⟩, o1, o2⟩
      have ea : H2 a = some (.lst (l.map V.int)) := sm _ _ (by rw [upd_ne (ne_of_none ha ht)]; exact ha)
      have eb : H2 b = some (.lst (r.map V.int)) := sm _ _ (by rw [upd_ne (ne_of_none hb ht)]; exact hb)
      have s2 : Same H H2 := (Same.upd0 ht).trans sm
      refine ⟨_, rfl, a, _, rfl, .inl (SqL.of ea), _, rfl, b, _, rfl, .inl (SqL.of eb), rfl, _, rfl, ?_⟩
      rw [List.length_map, List.length_map]
      have w0 : wgB n l r = (decide (l.length = r.length) && !(l.any fun k => decide (k ∈ r))) := by
        unfold wgB; rw [o1 (by simp), o2 (by simp)]; rfl
      by_cases hlr : l.length = r.length
      · refine tru (decide_eq_true (by rw [hlr])) ?_
        refine ⟨_, rfl, a, rfl, ⟨_, SqL.of ea⟩, fun p hp => ?_⟩
        refine comp_list (xs := l.map V.int) hp ea (by simp; exact Nat.lt_trans hl (by decide)) (fun x => match x with | .int k => .bl (decide (k ∈ r)) | _ => .non) (fun σ' => ∃ v0, σ' = [v0, some (.ref b)]) ?_ ?_ ?_
        · exact ⟨none, rfl⟩
        · rintro j x σ' H' hj ⟨v0, rfl⟩ sm' KK kk
          obtain ⟨k, hk, rfl⟩ := ints_at hj
          refine ⟨_, rfl, _, rfl, b, _, rfl, .inl (SqL.of (sm' _ _ eb)), rfl, flat_ints r, ?_⟩
          rw [show (if false = true then !inV (.int k) (r.map V.int) else inV (.int k) (r.map V.int)) = decide (k ∈ r) from inV_ints k r]
          exact kk [some (.int k), some (.ref b)] H' ⟨_, rfl⟩ (Same.refl _)
        · intro H3 s3 hq
          have e3 : (l.map V.int).map (fun x => match x with | .int k => V.bl (decide (k ∈ r)) | _ => .non) = (l.map fun k => decide (k ∈ r)).map V.bl := by
            rw [List.map_map, List.map_map]; rfl
          rw [e3] at hq
          refine ⟨p, _, rfl, hq, _, rfl, ?_⟩
          rw [List.any_map]
          have := q H3 (s2.trans s3)
          rw [w0, decide_eq_true hlr, Bool.true_and] at this
          exact this
      · refine fls (decide_eq_false fun z => hlr (by have := V.int.inj z; omega)) ?_
        have := q H2 s2
        rw [w0, decide_eq_false hlr, Bool.false_and] at this
        exact this
end
end Ks
end
section
namespace Ks
open PySem L2 Mir
def svOf : P3 → Int | .L => 1 | .R => -1 | .E => 0
def lch (c : Nat) (sv : Int) (o : P3) : Nat :=
  if o = .E then (if sv = 0 then c else 103)
  else if sv = 1 then (if c = 101 ∨ c = 104 then 104 else 103)
  else if sv = -1 then (if c = 101 ∨ c = 108 then 108 else 103) else 103
def flp (o : P3) (sv : Int) : Int := if o = .R then -sv else sv
theorem lch_sb {c : Nat} (h : Sign c) (p o : P3) : lch c (flp o (svOf p)) o = sb c p o := by
  rcases h with rfl | rfl | rfl | rfl <;> cases p <;> cases o <;> rfl
theorem in2 (c a b : Nat) (x : Str) (hx : x.cps.toList = [a, b]) : (!(Builtin.Str.occurrences x (ch1 c) 0 x.length 1).isEmpty) = decide (c = a ∨ c = b) := by
  rw [PySem.StrLaws.found_one, hx]
  simp
theorem side_rd {K : PySem.W.Frag} {σ : St} {H : Hp} {Q : VK} {a b : Addr} {l r : List Int} {i : Int} (h5 : σ[5]? = some (some (.int i))) (h1 : σ[1]? = some (some (.ref a))) (h2 : σ[2]? = some (some (.ref b))) (ha : H a = some (.lst (l.map V.int))) (hb : H b = some (.lst (r.map V.int))) (dis : ∀ k ∈ l, k ∉ r)
    (q : Q (.int (svOf (pl l r i))) H) : tIf (tTest (tOp (rIn K false) (tVar 5) (tVar 1))) (tC (.int 1)) (tIf (tTest (tOp (rIn K false) (tVar 5) (tVar 2))) (tUn (rU fun i => .int (-i)) (tC (.int 1))) (tC (.int 0))) σ H Q := by
  refine ⟨_, h5, _, h1, a, _, rfl, .inl (SqL.of ha), rfl, flat_ints l, _, rfl, ?_⟩
  rw [show (if false = true then !inV (.int i) (l.map V.int) else inV (.int i) (l.map V.int)) = decide (i ∈ l) from inV_ints i l]
  by_cases hl : i ∈ l
  · refine tru (decide_eq_true hl) ?_
    have e : pl l r i = .L := by unfold pl; rw [if_neg (dis i hl), if_pos hl]
    rw [e] at q; exact q
  · refine fls (decide_eq_false hl) ?_
    refine ⟨_, h5, _, h2, b, _, rfl, .inl (SqL.of hb), rfl, flat_ints r, _, rfl, ?_⟩
    rw [show (if false = true then !inV (.int i) (r.map V.int) else inV (.int i) (r.map V.int)) = decide (i ∈ r) from inV_ints i r]
    by_cases hr : i ∈ r
    · refine tru (decide_eq_true hr) ⟨_, rfl, ?_⟩
      have e : pl l r i = .R := by unfold pl; rw [if_pos hr]
      rw [e] at q; exact q
    · refine fls (decide_eq_false hr) ?_
      have e : pl l r i = .E := by unfold pl; rw [if_neg hr, if_neg hl]
      rw [e] at q; exact q
theorem eh_cps : ("eh" : Str).cps.toList = [101, 104] := by decide +kernel
theorem el_cps : ("el" : Str).cps.toList = [101, 108] := by decide +kernel
theorem dInt (a b : Int) : decide (V.int a = V.int b) = decide (a = b) := by
  by_cases h : a = b
  · subst h; simp
  · rw [decide_eq_false h, decide_eq_false fun z => h (V.int.inj z)]
section
variable {P : Program} {w : World} {K : PySem.W.Frag} {mg : Str → Option Value} {base : Heap}
def spLB : Sp := fun vs H Q _ => ∃ (z : Str) (a b : Addr) (l r : List Int) (o : P3), vs = [.str z, .ref a, .ref b, .str (p3 o)] ∧ (∀ c ∈ z.cps.toList, Sign c) ∧ z.length ≤ 300 ∧ H a = some (.lst (l.map V.int)) ∧ H b = some (.lst (r.map V.int)) ∧ (∀ k ∈ l, k ∉ r) ∧
  ∀ H', Same H H' → Q (.str (bh z l r o)) H'
theorem sc__law_behind : FnScope ["_law_marks_here", "_law_left_here", "_law_right_here", "_law_outcome", "_law_found", "_law_coin", "_law_sign", "_law_side"] ["_law_marks_here", "_law_left_here", "_law_right_here", "_law_outcome"] (defScope (top 40)) := ⟨rfl, rfl, rfl, by decide +kernel, rfl, by decide +kernel, by decide +kernel⟩
theorem ok_lb {f : Addr} {fd : FuncData} (F : Fun K "_law_behind" "_law_behind" (top 40) f fd) (B : Blt mg) : FnOk P w K mg base CX0 1 f fd ["_law_marks_here", "_law_left_here", "_law_right_here", "_law_outcome"] spLB := by
  refine F.ok sc__law_behind (fun vs H Q E h => ?_) (fun cdv A outer s H vs Q E hr h => ?_)
  · obtain ⟨z, a, b, l, r, o, rfl, _⟩ := h; rfl
  · obtain ⟨z, a, b, l, r, o, rfl, sg, hz, ha, hb, dis, q⟩ := h
    refine ⟨_, (pss_cons (ps_set (i := 4) sc__law_behind.nd rfl (Or.inl rfl) pe_str)
      (pss_cons (ps_for PassesOwn.never rfl (pi_enumS (by rfl) B.enum (pv 0)) (pg_tup rfl (pgs_cons (pg_name (i := 5) sc__law_behind.nd rfl (Or.inl rfl)) (pgs_cons (pg_name (i := 6) sc__law_behind.nd rfl (Or.inl rfl)) pgs_nil))) (pss_cons (ps_set (i := 7) sc__law_behind.nd rfl (Or.inl rfl) (pe_ifExp (pt_cmpR op_in_seq (pv 5) (pv 1) rfl) pe_int (pe_ifExp (pt_cmpR op_in_seq (pv 5) (pv 2) rfl) (pe_un un_neg pe_int) pe_int))) (pss_cons (ps_if (pt_cmpR op_eq (pv 3) pe_str (nomark _)) (pss_one (ps_set (i := 7) sc__law_behind.nd rfl (Or.inl rfl) (pe_un un_neg (pv 7)))) pss_nil) (pss_one (ps_if (pt_cmpR op_eq (pv 3) pe_str (nomark _)) (pss_one (ps_set (i := 4) sc__law_behind.nd rfl (Or.inl rfl) (pe_op op_add_str (pv 4) (pe_ifExp (pt_cmpR op_eq (pv 7) pe_int (nomark _)) (pv 6) pe_str)))) (pss_one (ps_if (pt_cmpR op_eq (pv 7) pe_int (nomark _)) (pss_one (ps_set (i := 4) sc__law_behind.nd rfl (Or.inl rfl) (pe_op op_add_str (pv 4) (pe_ifExp (pt_cmpR op_in_str (pv 6) pe_str rfl) pe_str pe_str)))) (pss_one (ps_set (i := 4) sc__law_behind.nd rfl (Or.inl rfl) (pe_op op_add_str (pv 4) (pe_ifExp (PW.pt (pw_and (pt_cmpR op_eq (pv 7) (pe_un un_neg pe_int) (nomark _)) (pw_and1 (pt_cmpR op_in_str (pv 6) pe_str rfl)))) pe_str pe_str)))))))))))
      (pss_one (ps_ret (pv 4))))), ?_⟩
    refine ⟨_, rfl, z, rfl, for_enumS (x := z) (fun i σ H2 => Same H H2 ∧ ∃ (v5 v6 v7 : Option V), σ = [some (.str z), some (.ref a), some (.ref b), some (.str (p3 o)), some (.str ⟨(aft l r o 0 (z.cps.toList.take i)).toArray⟩), v5, v6, v7]) ?_ ?_ ?_⟩
    · exact ⟨Same.refl _, none, none, none, rfl⟩
    · rintro i c t σ H2 hi ht ⟨sm, v5, v6, v7, rfl⟩
      have hic : z.cps.toList[i]? = some c := by simpa using hi
      have hil : i < z.cps.size := (Array.getElem?_eq_some_iff.mp hi).1
      have sc : Sign c := sg c (List.mem_of_getElem? hic)
      refine ⟨t, _, rfl, SqT.of upd_same, rfl, _, _, rfl, _, _, rfl, rfl, ?_⟩
      have s2 : Same H (upd H2 t (.tup [V.int i, V.str ⟨#[c]⟩])) := sm.upd ht
      generalize upd H2 t (.tup [V.int i, V.str ⟨#[c]⟩]) = H3 at s2 ⊢
      have hz' : z.cps.size ≤ 300 := hz
      have grow : ∀ (ch : Nat) (v7' : Option V), ch = sb c (pl l r i) o → Same H H3 ∧ ∃ (v5 v6 v7 : Option V), [some (V.str z), some (.ref a), some (.ref b), some (.str (p3 o)), some (.str (⟨(aft l r o 0 (z.cps.toList.take i)).toArray⟩ ++ ch1 ch)), some (.int i), some (.str ⟨#[c]⟩), v7'] = [some (.str z), some (.ref a), some (.ref b), some (.str (p3 o)), some (.str ⟨(aft l r o 0 (z.cps.toList.take (i + 1))).toArray⟩), v5, v6, v7] := by
        intro ch v7' e
        refine ⟨s2, some (.int i), some (.str ⟨#[c]⟩), v7', ?_⟩
        have e1 : z.cps.toList.take (i + 1) = z.cps.toList.take i ++ [c] := by rw [List.take_succ, hic]; rfl
        have e2 : (z.cps.toList.take i).length = i := by rw [List.length_take]; simp; omega
        have e3 : (⟨(aft l r o 0 (z.cps.toList.take i)).toArray⟩ ++ ch1 ch : Str) = ⟨(aft l r o 0 (z.cps.toList.take (i + 1))).toArray⟩ := by
          refine str_ext ?_
          rw [app_cps, e1, aft_snoc, e2, Nat.zero_add, e]
        rw [e3]
      have room : (⟨(aft l r o 0 (z.cps.toList.take i)).toArray⟩ : Str).length + 1 ≤ sizeLine := by
        have e : (⟨(aft l r o 0 (z.cps.toList.take i)).toArray⟩ : Str).length = (aft l r o 0 (z.cps.toList.take i)).length := by show Array.size _ = _; simp
        rw [e, aft_len, List.length_take]
        have : (1000 : Nat) ≤ sizeLine := by decide
        omega
      refine side_rd (i := i) (a := a) (b := b) (l := l) (r := r) rfl rfl rfl (s2 _ _ ha) (s2 _ _ hb) dis ?_
      have key := lch_sb sc (pl l r i) o
      generalize svOf (pl l r i) = sv at key ⊢
      have room1 : ∀ x : Str, x.length = 1 → (⟨(aft l r o 0 (z.cps.toList.take i)).toArray⟩ : Str).length + x.length ≤ sizeLine := fun x hx => by rw [hx]; exact room
      cases o with
      | R =>
        refine ⟨_, rfl, rfl, _, rfl, tru (by decide +kernel) ?_⟩
        refine ⟨_, rfl, sv, rfl, ?_⟩
        have key' : lch c (-sv) .R = sb c (pl l r i) .R := key
        refine ⟨_, rfl, rfl, _, rfl, fls (by decide +kernel) ?_⟩
        refine ⟨_, rfl, rfl, _, rfl, ?_⟩
        by_cases h1 : -sv = 1
        · refine tru (by rw [dInt]; exact decide_eq_true h1) ?_
          refine ⟨_, rfl, _, rfl, _, _, rfl, rfl, _, rfl, ?_⟩
          rw [in2 c 101 104 "eh" eh_cps]
          by_cases hc : c = 101 ∨ c = 104
          · refine tru (decide_eq_true hc) ?_
            refine ⟨_, _, rfl, rfl, room1 _ rfl, grow 104 _ ?_⟩
            rw [← key']; simp [lch, hc, h1]
          · refine fls (decide_eq_false hc) ?_
            refine ⟨_, _, rfl, rfl, room1 _ rfl, grow 103 _ ?_⟩
            rw [← key']; simp [lch, hc, h1]
        · refine fls (by rw [dInt]; exact decide_eq_false h1) ?_
          refine ⟨_, rfl, _, rfl, _, rfl, rfl, _, rfl, ?_⟩
          by_cases h2 : -sv = -1
          · refine tru (by rw [dInt]; exact decide_eq_true h2) ?_
            refine ⟨_, rfl, _, _, rfl, rfl, _, rfl, ?_⟩
            rw [in2 c 101 108 "el" el_cps]
            by_cases hc : c = 101 ∨ c = 108
            · refine tru (decide_eq_true hc) ?_
              refine ⟨_, _, rfl, rfl, room1 _ rfl, grow 108 _ ?_⟩
              rw [← key']; simp [lch, hc, h2]
            · refine fls (decide_eq_false hc) ?_
              refine ⟨_, _, rfl, rfl, room1 _ rfl, grow 103 _ ?_⟩
              rw [← key']; simp [lch, hc, h2]
          · refine fls (by rw [dInt]; exact decide_eq_false h2) ?_
            refine fls rfl ?_
            refine ⟨_, _, rfl, rfl, room1 _ rfl, grow 103 _ ?_⟩
            rw [← key']; simp [lch, h1, h2]
      | L =>
        refine ⟨_, rfl, rfl, _, rfl, fls (by decide +kernel) ?_⟩
        have key' : lch c sv .L = sb c (pl l r i) .L := key
        refine ⟨_, rfl, rfl, _, rfl, fls (by decide +kernel) ?_⟩
        refine ⟨_, rfl, rfl, _, rfl, ?_⟩
        by_cases h1 : sv = 1
        · refine tru (by rw [dInt]; exact decide_eq_true h1) ?_
          refine ⟨_, rfl, _, rfl, _, _, rfl, rfl, _, rfl, ?_⟩
          rw [in2 c 101 104 "eh" eh_cps]
          by_cases hc : c = 101 ∨ c = 104
          · refine tru (decide_eq_true hc) ?_
            refine ⟨_, _, rfl, rfl, room1 _ rfl, grow 104 _ ?_⟩
            rw [← key']; simp [lch, hc, h1]
          · refine fls (decide_eq_false hc) ?_
            refine ⟨_, _, rfl, rfl, room1 _ rfl, grow 103 _ ?_⟩
            rw [← key']; simp [lch, hc, h1]
        · refine fls (by rw [dInt]; exact decide_eq_false h1) ?_
          refine ⟨_, rfl, _, rfl, _, rfl, rfl, _, rfl, ?_⟩
          by_cases h2 : sv = -1
          · refine tru (by rw [dInt]; exact decide_eq_true h2) ?_
            refine ⟨_, rfl, _, _, rfl, rfl, _, rfl, ?_⟩
            rw [in2 c 101 108 "el" el_cps]
            by_cases hc : c = 101 ∨ c = 108
            · refine tru (decide_eq_true hc) ?_
              refine ⟨_, _, rfl, rfl, room1 _ rfl, grow 108 _ ?_⟩
              rw [← key']; simp [lch, hc, h2]
            · refine fls (decide_eq_false hc) ?_
              refine ⟨_, _, rfl, rfl, room1 _ rfl, grow 103 _ ?_⟩
              rw [← key']; simp [lch, hc, h2]
          · refine fls (by rw [dInt]; exact decide_eq_false h2) ?_
            refine fls rfl ?_
            refine ⟨_, _, rfl, rfl, room1 _ rfl, grow 103 _ ?_⟩
            rw [← key']; simp [lch, h1, h2]
      | E =>
        refine ⟨_, rfl, rfl, _, rfl, fls (by decide +kernel) ?_⟩
        have key' : lch c sv .E = sb c (pl l r i) .E := key
        refine ⟨_, rfl, rfl, _, rfl, tru (by decide +kernel) ?_⟩
        refine ⟨_, rfl, _, rfl, rfl, _, rfl, ?_⟩
        by_cases h1 : sv = 0
        · refine tru (by rw [dInt]; exact decide_eq_true h1) ?_
          refine ⟨_, rfl, _, _, rfl, rfl, room1 _ rfl, grow c _ ?_⟩
          rw [← key']; simp [lch, h1]
        · refine fls (by rw [dInt]; exact decide_eq_false h1) ?_
          refine ⟨_, _, rfl, rfl, room1 _ rfl, grow 103 _ ?_⟩
          rw [← key']; simp [lch, h1]
    · rintro σ H2 ⟨sm, v5, v6, v7, rfl⟩
      have e0 : z.cps.toList.take z.cps.size = z.cps.toList := List.take_of_length_le (by simp)
      rw [e0]
      exact ⟨_, rfl, q H2 sm⟩
end
end Ks
end
section
namespace Ks
open PySem L2 Mir
def o3 : List P3 := [.L, .R, .E]
theorem three {i : Nat} {x : V} (h : ([.str "left", .str "right", .str "even"] : List V)[i]? = some x) : ∃ o, x = .str (p3 o) ∧ o3[i]? = some o := by
  match i, h with
  | 0, h => cases h; exact ⟨.L, rfl, rfl⟩
  | 1, h => cases h; exact ⟨.R, rfl, rfl⟩
  | 2, h => cases h; exact ⟨.E, rfl, rfl⟩
  | n + 3, h => simp at h
theorem bh_count {z : Str} (sg : ∀ c ∈ z.cps.toList, Sign c) (l r : List Int) (o : P3) : 2 * (cntS 101 (bh z l r o) : Int) + cntS 104 (bh z l r o) + cntS 108 (bh z l r o) = (cs1 l r o 0 z.cps.toList : Int) := by
  have := aft_count (l := l) (r := r) (o := o) 0 sg
  unfold cntS bh
  rw [← this]
  simp
section
variable {P : Program} {w : World} {K : PySem.W.Frag} {mg : Str → Option Value} {base : Heap}
def spLL : Sp := fun vs H Q _ => ∃ (z : Str) (a b : Addr) (l r : List Int), vs = [.str z, .ref a, .ref b] ∧ (∀ c ∈ z.cps.toList, Sign c) ∧ z.length ≤ 300 ∧ H a = some (.lst (l.map V.int)) ∧ H b = some (.lst (r.map V.int)) ∧ (∀ k ∈ l, k ∉ r) ∧
  ∀ (p : Addr) (H' : Hp), Same H H' → H p = none → H' p = some (.lst (o3.map fun o => V.int (jd z l r o))) → Q (.ref p) H'
theorem sc__law_left : FnScope ["_law_marks_here", "_law_left_here", "_law_right_here", "_law_found", "_law_outcome", "_law_after", "_law_many"] ["_law_marks_here", "_law_left_here", "_law_right_here"] (defScope (top 41)) := ⟨rfl, rfl, rfl, by decide +kernel, rfl, by decide +kernel, by decide +kernel⟩
theorem ok_ll {f : Addr} {fd : FuncData} (F : Fun K "_law_left" "_law_left" (top 41) f fd) (B : Blt mg) (c__law_behind : Can P w K mg base CX0 1 "_law_behind" ["_law_marks_here", "_law_left_here", "_law_right_here", "_law_outcome"] spLB) :
    FnOk P w K mg base CX0 2 f fd ["_law_marks_here", "_law_left_here", "_law_right_here"] spLL := by
  refine F.ok sc__law_left (fun vs H Q E h => ?_) (fun cdv A outer s H vs Q E hr h => ?_)
  · obtain ⟨z, a, b, l, r, rfl, _⟩ := h; rfl
  · obtain ⟨z, a, b, l, r, rfl, sg, hz, ha, hb, dis, q⟩ := h
    refine ⟨_, (pss_cons (ps_set (i := 3) sc__law_left.nd rfl (Or.inl rfl) (pe_lst pa_nil))
      (pss_cons (ps_for PassesOwn.never rfl (pi_tup (pe_tup (pa_cons pe_str (pa_cons pe_str (pa_cons pe_str pa_nil))))) (pg_name (i := 4) sc__law_left.nd rfl (Or.inl rfl)) (pss_cons (ps_set (i := 5) sc__law_left.nd rfl (Or.inl rfl) (pe_can c__law_behind (hr.mono (by decide)) pass0 (pa_cons (pv 0) (pa_cons (pv 1) (pa_cons (pv 2) (pa_cons (pv 4) pa_nil)))))) (pss_cons (ps_set (i := 6) sc__law_left.nd rfl (Or.inl rfl) (pe_op op_add (pe_op op_add (pe_op op_mul pe_int (pe_bm PySem.F.plainAttrs_str PySem.F.slot_str_count PySem.F.type_str_count mt_count (pv 5) (pa_cons pe_str pa_nil))) (pe_bm PySem.F.plainAttrs_str PySem.F.slot_str_count PySem.F.type_str_count mt_count (pv 5) (pa_cons pe_str pa_nil))) (pe_bm PySem.F.plainAttrs_str PySem.F.slot_str_count PySem.F.type_str_count mt_count (pv 5) (pa_cons pe_str pa_nil)))) (pss_cons (ps_if (PW.pt (pw_and (pt_cmpR op_eq (pv 4) pe_str (nomark _)) (pw_and (pt_cmpR op_notin_str pe_str (pv 0) rfl) (pw_and1 (pt_cmpR op_notin_str pe_str (pv 0) rfl))))) (pss_one (ps_set (i := 6) sc__law_left.nd rfl (Or.inl rfl) (pe_op op_add (pv 6) pe_int))) pss_nil) (pss_one (ps_expr (pe_bm PySem.F.plainAttrs_list PySem.F.slot_list_append PySem.F.type_list_append mt_append (pv 3) (pa_cons (pv 6) pa_nil))))))))
      (pss_one (ps_ret (pv 3))))), ?_⟩
    refine ⟨by show 0 ≤ sizeLine; decide, fun p hp => ?_⟩
    refine ⟨by show 3 ≤ sizeLine; decide, fun t ht => ⟨t, rfl, ⟨_, SqT.of upd_same⟩, ?_⟩⟩
    have hpt : p ≠ t := fun e => by rw [← e, upd_same] at ht; cases ht
    have htH : H t = none := by rw [upd_ne (Ne.symm hpt)] at ht; exact ht
    refine for_tup (K := K) (a := t) (xs := [.str "left", .str "right", .str "even"]) (fun i σ H2 => Same H H2 ∧ H2 t = some (.tup [.str "left", .str "right", .str "even"]) ∧ H2 p = some (.lst ((o3.take i).map fun o => V.int (jd z l r o))) ∧ ∃ (v4 v5 v6 : Option V), σ = [some (.str z), some (.ref a), some (.ref b), some (.ref p), v4, v5, v6]) ?_ ?_ ?_ ?_
    · refine ⟨((Same.refl H).put' hp).put' htH, upd_same, ?_, none, none, none, rfl⟩
      rw [upd_ne hpt, upd_same]; rfl
    · rintro i σ H2 _ ⟨_, e, _⟩
      exact SqT.of e
    · rintro i x σ H2 hx ⟨sm, et, ep, v4, v5, v6, rfl⟩
      obtain ⟨o, rfl, ho⟩ := three hx
      have hi : i < 3 := (List.getElem?_eq_some_iff.mp ho).1
      refine ⟨_, rfl, _, rfl, _, rfl, _, rfl, z, a, b, l, r, o, rfl, sg, hz, sm _ _ ha, sm _ _ hb, dis, fun H3 s3 => ?_⟩
      refine ⟨_, rfl, rfl, bh z l r o, 101, rfl, by rw [s_e], _, _, rfl, rfl, .inl ⟨by decide, by decide⟩, _, rfl, rfl, bh z l r o, 104, rfl, by rw [s_h], _, _, rfl, rfl, _, rfl, rfl, bh z l r o, 108, rfl, by rw [s_l], _, _, rfl, rfl, ?_⟩
      have hcnt := bh_count sg l r o
      have fin : ∀ (n : Int) (H4 : Hp), Same H3 H4 → n = (jd z l r o : Int) → tDrop (tBM K "list" rAppend (tVar 3) (tCons (tVar 6) tNil)) { nx := fun σ H2 => Same H H2 ∧ H2 t = some (.tup [.str "left", .str "right", .str "even"]) ∧ H2 p = some (.lst ((o3.take (i + 1)).map fun o => V.int (jd z l r o))) ∧ ∃ (v4 v5 v6 : Option V), σ = [some (.str z), some (.ref a), some (.ref b), some (.ref p), v4, v5, v6], rt := Q }
          [some (.str z), some (.ref a), some (.ref b), some (.ref p), some (.str (p3 o)), some (.str (bh z l r o)), some (.int n)] H4 := by
        intro n H4 s4 e
        have ep4 : H4 p = some (.lst ((o3.take i).map fun o => V.int (jd z l r o))) := s4 _ _ (s3 _ _ ep)
        refine ⟨_, rfl, .inl ⟨rfl, _, SqL.of ep4⟩, _, rfl, p, _, _, rfl, rfl, ep4, small1000 (by simp; omega), ?_⟩
        refine ⟨((sm.trans s3).trans s4).put' hp, by rw [upd_ne (Ne.symm hpt)]; exact s4 _ _ (s3 _ _ et), ?_, _, _, _, rfl⟩
        rw [upd_same, List.take_succ, ho, e]
        simp
      refine ⟨_, rfl, rfl, _, rfl, ?_⟩
      rw [show (.str "even" : V) = .str (p3 .E) from rfl, dec_p3]
      by_cases hE : o = .E
      · refine tru (decide_eq_true hE) ?_
        refine ⟨_, rfl, _, _, rfl, rfl, _, rfl, ?_⟩
        rw [s_h, occ1]
        by_cases h1 : 104 ∈ z.cps.toList
        · refine fls (by simp [h1]) (fls rfl ?_)
          refine fin _ _ (Same.refl _) (hcnt.trans ?_)
          unfold jd allG; simp [h1]
        · refine tru (by simp [h1]) ?_
          refine ⟨_, rfl, _, _, rfl, rfl, _, rfl, ?_⟩
          rw [s_l, occ1]
          by_cases h2 : 108 ∈ z.cps.toList
          · refine fls (by simp [h2]) ?_
            refine fin _ _ (Same.refl _) (hcnt.trans ?_)
            unfold jd allG; simp [h2]
          · refine tru (by simp [h2]) ?_
            refine ⟨_, rfl, _, _, rfl, rfl, ?_⟩
            refine fin _ _ (Same.refl _) ((congrArg (· + 1) hcnt).trans ?_)
            unfold jd allG; simp [h1, h2, hE]
      · refine fls (decide_eq_false hE) (fls rfl ?_)
        refine fin _ _ (Same.refl _) (hcnt.trans ?_)
        unfold jd; simp [hE]
    · rintro σ H2 ⟨sm, et, ep, v4, v5, v6, rfl⟩
      exact ⟨_, rfl, q p H2 sm hp ep⟩
end
end Ks
end
section
namespace Ks
open PySem L2 Mir
def csF (z : Str) : Nat := if 0 < cntS 104 z + cntS 108 z then cntS 104 z + cntS 108 z else 2 * cntS 101 z + 1
def IsFew (n m : Nat) : Prop := n ≤ 3 ^ m ∧ ∀ j, j < m → 3 ^ j < n
theorem lt_pow3 (w : Nat) : w < 3 ^ w := by
  induction w with
  | zero => decide
  | succ w ih => rw [Nat.pow_succ]; omega
theorem IsFew.uniq {n m k : Nat} (h : IsFew n m) (g : IsFew n k) : m = k := by
  rcases Nat.lt_trichotomy m k with z | z | z
  · have := g.2 m z; have := h.1; omega
  · exact z
  · have := h.2 k z; have := g.1; omega
theorem IsFew.le {n m : Nat} (h : IsFew n m) : m ≤ n := by
  cases m with
  | zero => omega
  | succ m => have := h.2 m (by omega); have := lt_pow3 m; omega
theorem cs_pos (z : Str) : 0 < csF z := by unfold csF; split <;> omega
theorem cs_le {z : Str} (M : MkOk z) : csF z ≤ 601 := by
  have h := signs_count M.sg
  have hl := M.len
  rw [str_len] at hl
  unfold csF cntS
  split <;> omega
section
variable {P : Program} {w : World} {K : PySem.W.Frag} {mg : Str → Option Value} {base : Heap}
def spCases : Sp := fun vs H Q _ => ∃ z, vs = [.str z] ∧ MkOk z ∧ Q (.int (csF z)) H
theorem sc_cases : FnScope ["marks", "one_way"] ["marks"] (defScope (top 10)) := ⟨rfl, rfl, rfl, by decide +kernel, rfl, by decide +kernel, by decide +kernel⟩
theorem ok_cases {f : Addr} {fd : FuncData} (F : Fun K "cases" "cases" (top 10) f fd) (c_check_marks : Can P w K mg base CX0 1 "check_marks" ["marks"] spCM) : FnOk P w K mg base CX0 2 f fd ["marks"] spCases := by
  refine F.ok sc_cases (fun vs H Q E h => ?_) (fun cdv A outer s H vs Q E hr h => ?_)
  · obtain ⟨z, rfl, _⟩ := h; rfl
  · obtain ⟨z, rfl, M, k⟩ := h
    refine ⟨_, (pss_cons (ps_expr (pe_can c_check_marks (hr.mono (by decide)) pass0 (pa_cons (pv 0) pa_nil)))
      (pss_cons (ps_set (i := 1) sc_cases.nd rfl (Or.inl rfl) (pe_op op_add (pe_bm PySem.F.plainAttrs_str PySem.F.slot_str_count PySem.F.type_str_count mt_count (pv 0) (pa_cons pe_str pa_nil)) (pe_bm PySem.F.plainAttrs_str PySem.F.slot_str_count PySem.F.type_str_count mt_count (pv 0) (pa_cons pe_str pa_nil))))
      (pss_cons (ps_if (pt_cmpR op_gt (pv 1) pe_int (nomark _)) (pss_one (ps_ret (pv 1))) pss_nil)
      (pss_one (ps_ret (pe_op op_add (pe_op op_mul pe_int (pe_bm PySem.F.plainAttrs_str PySem.F.slot_str_count PySem.F.type_str_count mt_count (pv 0) (pa_cons pe_str pa_nil))) pe_int)))))), ?_⟩
    refine ⟨_, rfl, z, rfl, M, ?_⟩
    refine ⟨_, rfl, rfl, z, 104, rfl, by rw [s_h], _, rfl, rfl, z, 108, rfl, by rw [s_l], _, _, rfl, rfl, ?_⟩
    refine ⟨_, rfl, _, _, rfl, rfl, _, rfl, ?_⟩
    unfold csF at k
    by_cases h : 0 < cntS 104 z + cntS 108 z
    · rw [if_pos h] at k
      refine tru (decide_eq_true (by omega)) ⟨_, rfl, ?_⟩
      have e : ((cntS 104 z : Int) + (cntS 108 z : Int)) = ((cntS 104 z + cntS 108 z : Nat) : Int) := by push_cast; rfl
      show Q (.int ((cntS 104 z : Int) + (cntS 108 z : Int))) H
      rw [e]; exact k
    · rw [if_neg h] at k
      refine fls (decide_eq_false (by omega)) ⟨_, rfl, rfl, z, 101, rfl, by rw [s_e], _, _, rfl, rfl, .inl ⟨by decide, by decide⟩, _, _, rfl, rfl, ?_⟩
      have e : (2 * (cntS 101 z : Int) + 1) = ((2 * cntS 101 z + 1 : Nat) : Int) := by push_cast; rfl
      show Q (.int (2 * (cntS 101 z : Int) + 1)) H
      rw [e]; exact k
def spMost : Sp := fun vs H Q _ => ∃ k : Int, vs = [.int k] ∧ k ≤ 1000 ∧ -1000 ≤ k ∧ Q (.int ((3 ^ k.toNat : Nat) : Int)) H
theorem sc_most_cases : FnScope ["weighings", "most", "step"] ["weighings"] (defScope (top 11)) := ⟨rfl, rfl, rfl, by decide +kernel, rfl, by decide +kernel, by decide +kernel⟩
theorem ok_most {f : Addr} {fd : FuncData} (F : Fun K "most_cases" "most_cases" (top 11) f fd) (B : Blt mg) : FnOk P w K mg base CX0 1 f fd ["weighings"] spMost := by
  refine F.ok sc_most_cases (fun vs H Q E h => ?_) (fun cdv A outer s H vs Q E hr h => ?_)
  · obtain ⟨k, rfl, _⟩ := h; rfl
  · obtain ⟨k, rfl, h1, h2, q⟩ := h
    refine ⟨_, (pss_cons (ps_set (i := 1) sc_most_cases.nd rfl (Or.inl rfl) pe_int)
      (pss_cons (ps_for PassesOwn.never rfl (pi_range1 (by rfl) B.range (pa_cons (pv 0) pa_nil)) (pg_name (i := 2) sc_most_cases.nd rfl (Or.inl rfl)) (pss_one (ps_set (i := 1) sc_most_cases.nd rfl (Or.inl rfl) (pe_op op_mul (pv 1) pe_int))))
      (pss_one (ps_ret (pv 1))))), ?_⟩
    refine ⟨_, rfl, k, rfl, by omega, by omega, ?_⟩
    refine for_range (lo := 0) (n := k.toNat) (fun i σ H2 => H2 = H ∧ ∃ v, σ = [some (.int k), some (.int ((3 ^ i : Nat) : Int)), v]) ?_ ?_ ?_
    · exact ⟨rfl, none, rfl⟩
    · rintro i σ H2 hi ⟨rfl, v, rfl⟩
      refine ⟨_, rfl, _, _, rfl, rfl, .inr ⟨by decide, by decide⟩, ?_⟩
      refine ⟨rfl, some (.int (0 + (i : Int))), ?_⟩
      have e : ((3 ^ i : Nat) : Int) * 3 = ((3 ^ (i + 1) : Nat) : Int) := by rw [Nat.pow_succ]; push_cast; rfl
      show [some (V.int k), some (V.int (((3 ^ i : Nat) : Int) * 3)), some (.int (0 + (i : Int)))] = _
      rw [e]
    · rintro σ H2 ⟨rfl, v, rfl⟩
      exact ⟨_, rfl, q⟩
def spFew : Sp := fun vs H Q _ => ∃ z, vs = [.str z] ∧ MkOk z ∧ ∀ m, IsFew (csF z) m → Q (.int m) H
theorem sc_fewest : FnScope ["marks", "many", "weighings"] ["marks"] (defScope (top 12)) := ⟨rfl, rfl, rfl, by decide +kernel, rfl, by decide +kernel, by decide +kernel⟩
theorem ok_few {f : Addr} {fd : FuncData} (F : Fun K "fewest" "fewest" (top 12) f fd) (c_cases : Can P w K mg base CX0 2 "cases" ["marks"] spCases) (c_most_cases : Can P w K mg base CX0 1 "most_cases" ["weighings"] spMost) : FnOk P w K mg base CX0 3 f fd ["marks"] spFew := by
  refine F.ok sc_fewest (fun vs H Q E h => ?_) (fun cdv A outer s H vs Q E hr h => ?_)
  · obtain ⟨z, rfl, _⟩ := h; rfl
  · obtain ⟨z, rfl, M, q⟩ := h
    have hcs := cs_le M
    refine ⟨_, (pss_cons (ps_set (i := 1) sc_fewest.nd rfl (Or.inl rfl) (pe_can c_cases (hr.mono (by decide)) pass0 (pa_cons (pv 0) pa_nil)))
      (pss_cons (ps_set (i := 2) sc_fewest.nd rfl (Or.inl rfl) pe_int)
      (pss_cons (ps_while PassesOwn.never (pt_cmpR op_lt (pe_can c_most_cases (hr.mono (by decide)) pass0 (pa_cons (pv 2) pa_nil)) (pv 1) (nomark _)) (pss_one (ps_set (i := 2) sc_fewest.nd rfl (Or.inl rfl) (pe_op op_add (pv 2) pe_int))))
      (pss_one (ps_ret (pv 2)))))), ?_⟩
    refine ⟨_, rfl, z, rfl, M, ?_⟩
    refine while_by (fun σ H2 => H2 = H ∧ ∃ k : Nat, σ = [some (.str z), some (.int (csF z)), some (.int k)] ∧ ∀ j, j < k → 3 ^ j < csF z) (fun σ _ => match σ with | [_, _, some (.int k)] => csF z - k.toNat | _ => 0) ?_ ?_ ?_
    · exact ⟨rfl, 0, rfl, fun j h => by omega⟩
    · rintro σ H2 ⟨rfl, k, rfl, hk⟩
      have hkb : k ≤ 601 := by
        cases k with
        | zero => omega
        | succ k => have := hk k (by omega); have := lt_pow3 k; omega
      refine ⟨_, rfl, (k : Int), rfl, by omega, by omega, _, rfl, _, _, rfl, rfl, _, rfl, ?_⟩
      rw [Int.toNat_natCast]
      by_cases h : 3 ^ k < csF z
      · refine tru (decide_eq_true (by exact_mod_cast h)) ⟨_, rfl, _, _, rfl, rfl, ?_⟩
        refine ⟨⟨rfl, k + 1, rfl, fun j hj => ?_⟩, ?_⟩
        · rcases Nat.lt_succ_iff_lt_or_eq.mp hj with z | z
          · exact hk j z
          · rw [z]; exact h
        · have := lt_pow3 k
          show csF z - ((k : Int) + 1).toNat < csF z - (k : Int).toNat
          omega
      · refine fls (decide_eq_false (by intro z; exact h (by exact_mod_cast z))) ⟨_, rfl, ?_⟩
        exact q k ⟨by omega, hk⟩
    · rintro σ H2 Q1 Q2 mono ⟨v, h1, k, hv, hb1, hb2, v2, h3, i, j, e1, e2, c, e3, h4⟩
      exact ⟨v, h1, k, hv, hb1, hb2, v2, h3, i, j, e1, e2, c, e3, mono _ _ h4⟩
end
end Ks
end
section
namespace Ks
open PySem L2 Mir
def cw (z : Str) (c : Nat) : List Int := ((List.range z.cps.size).filter fun i => z.cps.getD i 0 == c).map fun (i : Nat) => (i : Int)
theorem cps_range (z : Str) : z.cps.toList = (List.range z.cps.size).map fun i => z.cps.getD i 0 := by
  refine List.ext_getElem? fun i => ?_
  rw [List.getElem?_map]
  by_cases hi : i < z.cps.size
  · rw [List.getElem?_range hi]; simp [hi, Array.getD]
  · rw [List.getElem?_eq_none (by simp; omega), List.getElem?_eq_none (by simp; omega)]; rfl
theorem cw_mem {z : Str} {c : Nat} {x : Int} : x ∈ cw z c ↔ 0 ≤ x ∧ z.cps.toList[x.toNat]? = some c := by
  unfold cw
  rw [List.mem_map]
  constructor
  · rintro ⟨i, hi, rfl⟩
    rw [List.mem_filter, List.mem_range] at hi
    obtain ⟨h1, h2⟩ := hi
    have h3 : z.cps.getD i 0 = c := by simpa using h2
    refine ⟨by omega, ?_⟩
    rw [Int.toNat_natCast, ← h3]; simp [h1, Array.getD]
  · rintro ⟨h0, h⟩
    have hlt : x.toNat < z.cps.size := by
      have := (List.getElem?_eq_some_iff.mp h).1
      simpa using this
    refine ⟨x.toNat, ?_, by omega⟩
    rw [List.mem_filter, List.mem_range]
    refine ⟨hlt, ?_⟩
    have : z.cps.getD x.toNat 0 = c := by
      have h' : some z.cps[x.toNat] = some c := by rw [← h]; simp [hlt]
      simp [Array.getD, hlt, Option.some.inj h']
    rw [this]; simp
theorem cw_len (z : Str) (c : Nat) : (cw z c).length = cntS c z := by
  unfold cw cntS
  rw [List.length_map, ← List.countP_eq_length_filter]
  conv => rhs; rw [cps_range z]
  rw [List.count_eq_countP, List.countP_map]
  rfl
theorem cw_nodup (z : Str) (c : Nat) : (cw z c).Nodup := by
  unfold cw
  refine List.Pairwise.map _ (fun a b (h : a ≠ b) => ?_) ((List.nodup_range).filter _)
  intro e; exact h (by exact_mod_cast e)
def prs (z : Str) (c : Nat) : List Int := (cw z c).take (2 * (cntS c z / 2))
def als (z : Str) (c : Nat) : List Int := (cw z c).drop (2 * (cntS c z / 2))
def pfF (z : Str) : List Int := (prs z 101 ++ (prs z 104 ++ prs z 108)) ++ (als z 101 ++ (als z 104 ++ als z 108))
theorem pf_perm (z : Str) : (pfF z).Perm (cw z 101 ++ (cw z 104 ++ cw z 108)) := by
  rw [List.perm_iff_count]
  intro a
  have e : ∀ c, (cw z c).count a = (prs z c).count a + (als z c).count a := fun c => by
    unfold prs als; rw [← List.count_append, List.take_append_drop]
  unfold pfF
  simp only [List.count_append]
  rw [e 101, e 104, e 108]; omega
theorem pf_nodup (z : Str) : (pfF z).Nodup := by
  refine (pf_perm z).nodup_iff.mpr ?_
  have d : ∀ {a b : Nat}, a ≠ b → ∀ x ∈ cw z a, x ∉ cw z b := fun {a b} ne x h1 h2 => by
    have e1 := (cw_mem.mp h1).2
    have e2 := (cw_mem.mp h2).2
    rw [e1] at e2
    exact ne (Option.some.inj e2)
  rw [List.nodup_append]
  refine ⟨cw_nodup z _, ?_, fun x hx y hy e => ?_⟩
  · rw [List.nodup_append]
    exact ⟨cw_nodup z _, cw_nodup z _, fun x hx y hy e => d (by decide) x hx (e ▸ hy)⟩
  · subst e
    rcases List.mem_append.mp hy with h | h
    · exact d (by decide) x hx h
    · exact d (by decide) x hx h
theorem pf_len (z : Str) : (pfF z).length = cntS 101 z + (cntS 104 z + cntS 108 z) := by
  rw [(pf_perm z).length_eq, List.length_append, List.length_append, cw_len, cw_len, cw_len]
theorem pf_mem {z : Str} {x : Int} (h : x ∈ pfF z) : 0 ≤ x ∧ x < z.length ∧ (z.cps.toList[x.toNat]? = some 101 ∨ z.cps.toList[x.toNat]? = some 104 ∨ z.cps.toList[x.toNat]? = some 108) := by
  have h1 := (pf_perm z).mem_iff.mp h
  have fin : ∀ c, x ∈ cw z c → 0 ≤ x ∧ x < z.length ∧ z.cps.toList[x.toNat]? = some c := fun c hc => by
    obtain ⟨a, b⟩ := cw_mem.mp hc
    refine ⟨a, ?_, b⟩
    have := (List.getElem?_eq_some_iff.mp b).1
    rw [str_len]; omega
  rcases List.mem_append.mp h1 with q | q
  · obtain ⟨a, b, c⟩ := fin _ q; exact ⟨a, b, .inl c⟩
  · rcases List.mem_append.mp q with q | q
    · obtain ⟨a, b, c⟩ := fin _ q; exact ⟨a, b, .inr (.inl c)⟩
    · obtain ⟨a, b, c⟩ := fin _ q; exact ⟨a, b, .inr (.inr c)⟩
theorem cnt0 {c : Nat} {z : Str} : cntS c z = 0 ↔ c ∉ z.cps.toList := by unfold cntS; exact List.count_eq_zero
theorem cntp {c : Nat} {z : Str} : 0 < cntS c z ↔ c ∈ z.cps.toList := by unfold cntS; exact List.count_pos_iff
theorem allG_iff {z : Str} : allG z = true ↔ cntS 104 z = 0 ∧ cntS 108 z = 0 := by
  rw [cnt0, cnt0]; unfold allG; simp
theorem prs_len (z : Str) (c : Nat) : (prs z c).length = 2 * (cntS c z / 2) := by
  unfold prs; rw [List.length_take, cw_len]; omega
theorem als_len (z : Str) (c : Nat) : (als z c).length = cntS c z % 2 := by
  unfold als; rw [List.length_drop, cw_len]; omega
theorem pf_prd {z : Str} (he : cntS 101 z = 0) (k : Nat) (hk : k < (pfF z).length) : Prd z.cps.toList ((pfF z).take k) := by
  have on1 : ∀ c, Prd z.cps.toList (prs z c) := fun c => Prd.one (c := c) _ fun x hx => (cw_mem.mp (List.mem_of_mem_take hx)).2
  have e0 : cw z 101 = [] := List.eq_nil_of_length_eq_zero (by rw [cw_len, he])
  have e1 : prs z 101 = [] := by unfold prs; rw [e0, List.take_nil]
  have e2 : als z 101 = [] := by unfold als; rw [e0, List.drop_nil]
  have P : Prd z.cps.toList (prs z 104 ++ prs z 108) := Prd.app _ _ (by rw [prs_len]; omega) (on1 _) (on1 _)
  have lp : (prs z 104 ++ prs z 108).length % 2 = 0 := by rw [List.length_append, prs_len, prs_len]; omega
  have la : (als z 104 ++ als z 108).length ≤ 2 := by rw [List.length_append, als_len, als_len]; omega
  unfold pfF at hk ⊢
  rw [e1, e2, List.nil_append, List.nil_append] at hk ⊢
  generalize prs z 104 ++ prs z 108 = p at *
  generalize als z 104 ++ als z 108 = a at *
  rw [List.length_append] at hk
  by_cases h : k ≤ p.length
  · rw [List.take_append_of_le_length h]; exact Prd.take _ _ P
  · have e : k = p.length + 1 := by omega
    rw [e, List.take_length_add_append]
    refine Prd.app _ _ lp P ?_
    cases a with
    | nil => trivial
    | cons x t => exact trivial
theorem pow3_odd (k : Nat) : 3 ^ k % 2 = 1 := by
  induction k with
  | zero => rfl
  | succ k ih => rw [Nat.pow_succ]; omega
end Ks
end
section
namespace Ks
open PySem L2 Mir PyProof.Rows
theorem pick_ev (ns : List Int) (b : Nat) (h : b ≤ ns.length) : pickNums ns (some 0) (some (b : Int)) (some 2) = evs (ns.take b) := by
  have e : sliceBounds (some 0) (some (b : Int)) (some 2) ns.length = (0, (b : Int), 2) := by
    simp [sliceBounds]; omega
  unfold pickNums
  rw [e, ← evs_pick ns b h]
  have e2 : sliceRange 0 (b : Int) 2 = (List.range ((b + 1) / 2)).map fun k => 2 * k := by
    unfold sliceRange
    have c : (if (2 : Int) > 0 then (if (0 : Int) < (b : Int) then ((b : Int) - 0 + 2 - 1) / 2 else 0) else (if (0 : Int) > (b : Int) then (0 - (b : Int) - 2 - 1) / (-2) else 0)).toNat = (b + 1) / 2 := by
      rw [if_pos (by decide)]; split <;> omega
    show (List.range _).map _ = _
    rw [c]
    refine List.map_congr_left fun k _ => ?_
    omega
  show List.filterMap (fun x => ns[x]?) (sliceRange 0 (b : Int) 2) = _
  rw [e2, List.filterMap_map]; rfl
theorem pick_od (ns : List Int) (b : Nat) (h : b ≤ ns.length) : pickNums ns (some 1) (some (b : Int)) (some 2) = ods (ns.take b) := by
  by_cases hn : ns.length = 0
  · have e := List.eq_nil_of_length_eq_zero hn
    subst e
    have : b = 0 := by simpa using h
    subst this; rfl
  have e : sliceBounds (some 1) (some (b : Int)) (some 2) ns.length = (1, (b : Int), 2) := by
    simp [sliceBounds]; omega
  unfold pickNums
  rw [e, ← ods_pick ns b h]
  have e2 : sliceRange 1 (b : Int) 2 = (List.range (b / 2)).map fun k => 2 * k + 1 := by
    unfold sliceRange
    have c : (if (2 : Int) > 0 then (if (1 : Int) < (b : Int) then ((b : Int) - 1 + 2 - 1) / 2 else 0) else (if (1 : Int) > (b : Int) then (1 - (b : Int) - 2 - 1) / (-2) else 0)).toNat = b / 2 := by
      rw [if_pos (by decide)]; split <;> omega
    show (List.range _).map _ = _
    rw [c]
    refine List.map_congr_left fun k _ => ?_
    omega
  show List.filterMap (fun x => ns[x]?) (sliceRange 1 (b : Int) 2) = _
  rw [e2, List.filterMap_map]; rfl
def keepF (z : Str) (M : Nat) : Nat := if 101 ∈ z.cps.toList then (M - 1) / 2 else M
theorem few_two {z : Str} {m : Nat} (F : IsFew (csF z) m) (h : 0 < m) : 3 ^ (m - 1) < csF z ∧ csF z ≤ 3 * 3 ^ (m - 1) := by
  refine ⟨F.2 (m - 1) (by omega), ?_⟩
  have := F.1
  have e : m = m - 1 + 1 := by omega
  rw [e, Nat.pow_succ] at this; omega
theorem first_jd {z : Str} {m on : Nat} (M : MkOk z) (F : IsFew (csF z) m) (h : 0 < m) (hon : on = (pfF z).length - keepF z (3 ^ (m - 1))) :
    0 < on ∧ on ≤ (pfF z).length ∧ keepF z (3 ^ (m - 1)) ≤ (pfF z).length ∧ ∀ o, jd z (evs ((pfF z).take on)) (ods ((pfF z).take on)) o ≤ 3 ^ (m - 1) := by
  obtain ⟨h1, h2⟩ := few_two F h
  have od := pow3_odd (m - 1)
  have ps := Nat.pos_of_ne_zero (show 3 ^ (m - 1) ≠ 0 by intro e; rw [e] at od; simp at od)
  generalize 3 ^ (m - 1) = T at *
  rw [pf_len] at hon ⊢
  unfold keepF at hon ⊢
  unfold csF at h1 h2
  by_cases he : 101 ∈ z.cps.toList
  · obtain ⟨n1, n2⟩ := M.ex he
    have c1 := cnt0.mpr n1
    have c2 := cnt0.mpr n2
    rw [if_pos he] at hon ⊢
    rw [if_neg (by omega)] at h1 h2
    refine ⟨by omega, by omega, by omega, fun o => ?_⟩
    have q := open_e (o := o) (cs := z.cps.toList) (pf := pfF z) (M := T) (on := on) M.sg (pf_nodup z) (fun x hx => (pf_mem hx).1) (fun x hx => ?_) (by rw [pf_len, c1, c2]; rfl) c1 c2 od h1 h2 (by rw [c1, c2] at hon; exact hon)
    · unfold jd
      have g : allG z = true := allG_iff.mpr ⟨c1, c2⟩
      rw [g]; simpa using q
    · rcases (pf_mem hx).2.2 with q | q | q
      · exact q
      · exact absurd (List.mem_of_getElem? q) n1
      · exact absurd (List.mem_of_getElem? q) n2
  · have c0 := cnt0.mpr he
    rw [if_neg he] at hon ⊢
    by_cases hp : 0 < cntS 104 z + cntS 108 z
    · rw [if_pos hp] at h1 h2
      refine ⟨by omega, by omega, by omega, fun o => ?_⟩
      have q := open_hl (o := o) (cs := z.cps.toList) (pf := pfF z) (M := T) (on := on) M.sg (pf_nodup z) (fun x hx => (pf_mem hx).1) (fun x hx => ?_) (by rw [pf_len, c0, Nat.zero_add]; rfl) c0 ps h1 h2 (by rw [c0, Nat.zero_add] at hon; exact hon) (pf_prd c0)
      · unfold jd
        have g : ¬ (allG z = true) := fun g => by have := allG_iff.mp g; omega
        rw [if_neg (fun z => g z.2)]; exact q
      · rcases (pf_mem hx).2.2 with q | q
        · exact absurd (List.mem_of_getElem? q) he
        · exact q
    · rw [if_neg hp, c0] at h1; omega
theorem jd_same {z : Str} {l r l' r' : List Int} {o : P3} (h : ∀ k : Nat, k < z.length → pl l' r' k = pl l r k) : jd z l' r' o = jd z l r o := by
  unfold jd
  rw [cs1_congr z.cps.toList 0 fun k _ hk => h k (by rw [str_len]; omega)]
theorem nodup_lt {l : List Int} (h : l.Pairwise (· ≤ ·)) (n : l.Nodup) : l.Pairwise (· < ·) := by
  refine (h.and n).imp fun {a b} ⟨x, y⟩ => ?_
  have : a ≠ b := y
  omega
theorem first_ok {z : Str} {m on : Nat} (M : MkOk z) (F : IsFew (csF z) m) (h : 0 < m) (hon : on = (pfF z).length - keepF z (3 ^ (m - 1))) {l r bes : List Int} (hl : l.Perm (evs ((pfF z).take on))) (sl : l.Pairwise (· ≤ ·)) (hr : r.Perm (ods ((pfF z).take on) ++ bes))
    (sr : r.Pairwise (· ≤ ·)) (hb : bes = if (ods ((pfF z).take on)).length < (evs ((pfF z).take on)).length then [(z.length : Int)] else []) : Wg z.length l r ∧ ∀ o, jd z l r o ≤ 3 ^ (m - 1) := by
  obtain ⟨h1, h2, _, h3⟩ := first_jd M F h hon
  have nd : ((pfF z).take on).Nodup := (pf_nodup z).sublist (List.take_sublist _ _)
  have mem : ∀ x ∈ (pfF z).take on, 0 ≤ x ∧ x < z.length := fun x hx => ⟨(pf_mem (List.mem_of_mem_take hx)).1, (pf_mem (List.mem_of_mem_take hx)).2.1⟩
  have nd2 := (evs_ods ((pfF z).take on)).nodup_iff.mpr nd
  generalize (pfF z).take on = ps at *
  rw [List.nodup_append] at nd2
  obtain ⟨a1, a2, a3⟩ := nd2
  have inb : ∀ k ∈ bes, k = z.length := fun k hk => by
    rw [hb] at hk; split at hk
    · simpa using hk
    · simp at hk
  have ndb : bes.Nodup := by rw [hb]; split <;> simp
  have ndr : (ods ps ++ bes).Nodup := by
    rw [List.nodup_append]
    refine ⟨a2, ndb, fun x hx y hy e => ?_⟩
    have := (mem x (ods_mem hx)).2
    have := inb y hy
    omega
  refine ⟨⟨nodup_lt sl (hl.nodup_iff.mpr a1), nodup_lt sr (hr.nodup_iff.mpr ndr), fun k hk => ?_, fun k hk => ?_, ?_, fun k hk hk2 => ?_⟩, fun o => ?_⟩
  · have := mem k (evs_mem (hl.mem_iff.mp hk)); omega
  · rcases List.mem_append.mp (hr.mem_iff.mp hk) with q | q
    · have := mem k (ods_mem q); omega
    · have := inb k q; omega
  · rw [hl.length_eq, hr.length_eq, List.length_append, hb]
    have := evs_len ps
    have := ods_len ps
    split
    · simp; omega
    · simp; omega
  · have q1 := hl.mem_iff.mp hk
    rcases List.mem_append.mp (hr.mem_iff.mp hk2) with q | q
    · exact a3 k q1 k q rfl
    · have := inb k q; have := mem k (evs_mem q1); omega
  · rw [jd_same (l := evs ps) (r := ods ps) fun k hk => ?_]
    · exact h3 o
    · refine (pl_same (l := evs ps) (r := ods ps ++ bes) (fun x => hl.mem_iff) (fun x => hr.mem_iff) k).trans ?_
      unfold pl
      have : (k : Int) ∉ bes := fun q => by have := inb _ q; omega
      simp [List.mem_append, this]
end Ks
end
section
namespace Ks
open PySem L2 Mir PyProof.Rows
section
variable {P : Program} {w : World} {K : PySem.W.Frag} {mg : Str → Option Value} {base : Heap}
def spCoins : Sp := fun vs H Q _ => ∃ (z : Str) (c : Nat), vs = [.str z, .str (ch1 c)] ∧ z.length ≤ 1000 ∧ ∀ (p : Addr) (H' : Hp), H p = none → Same H H' → H' p = some (.lst ((cw z c).map V.int)) → Q (.ref p) H'
theorem sc_coins_with : FnScope ["marks", "wanted"] ["marks", "wanted"] (defScope (top 29)) := ⟨rfl, rfl, rfl, by decide +kernel, rfl, by decide +kernel, by decide +kernel⟩
theorem ok_coins {f : Addr} {fd : FuncData} (F : Fun K "coins_with" "coins_with" (top 29) f fd) (B : Blt mg) : FnOk P w K mg base CX0 1 f fd ["marks", "wanted"] spCoins := by
  refine F.ok sc_coins_with (fun vs H Q E h => ?_) (fun cdv A outer s H vs Q E hr h => ?_)
  · obtain ⟨z, c, rfl, _⟩ := h; rfl
  · obtain ⟨z, c, rfl, hz, k⟩ := h
    refine ⟨_, (pss_one (ps_ret (pe_compIf (N := ["marks", "wanted"]) (sc0 := defScope (top 29)) ["coin", "sign"] ["wanted"] [1] rfl rfl rfl ⟨rfl, by decide +kernel, by decide +kernel, by decide +kernel, rfl, by decide +kernel⟩ (pi_enumS (by rfl) B.enum (pv 0)) (fun _ _ _ _ => (pg_tupK (K := K) (n := 2) rfl rfl (pgs_cons (pg_name (i := 0) (by decide +kernel : (["coin", "sign", "wanted"] : List Str).Nodup) rfl (Or.inl rfl) (.inr rfl)) (pgs_cons (pg_name (i := 1) (by decide +kernel : (["coin", "sign", "wanted"] : List Str).Nodup) rfl (Or.inl rfl) (.inr rfl)) pgs_nil)))) (fun _ _ _ _ => (pt_cmpR op_eq (pv 1) (pv 2) (nomark _))) (fun _ _ _ _ => (pv 0))))), ?_⟩
    refine ⟨_, rfl, z, rfl, fun p hp => comp_enumIf hp (Nat.lt_of_le_of_lt hz (by decide)) (fun i => z.cps.getD i 0 == c) (fun i => V.int i) (fun σ' => ∃ v0 v1, σ' = [v0, v1, some (.str (ch1 c))]) ?_ ?_ ?_⟩
    · exact ⟨none, none, rfl⟩
    · rintro i d t' σ' H' hc ht ⟨v0, v1, rfl⟩ sm K1 K0 k1 k0
      refine ⟨t', _, rfl, SqT.of upd_same, rfl, _, _, rfl, _, _, rfl, rfl, ?_⟩
      have e : z.cps.getD i 0 = d := by obtain ⟨h1, h2⟩ := Array.getElem?_eq_some_iff.mp hc; simp [Array.getD, h1, h2]
      refine ⟨_, rfl, _, rfl, rfl, _, rfl, ?_⟩
      rw [e] at k1 k0
      by_cases h : d = c
      · refine tru (by show decide (V.str (ch1 d) = V.str (ch1 c)) = true; rw [dec_ch]; exact decide_eq_true h) ?_
        exact ⟨_, rfl, k1 (by simpa using h) _ _ ⟨_, _, rfl⟩ (Same.upd0 ht)⟩
      · refine fls (by show decide (V.str (ch1 d) = V.str (ch1 c)) = false; rw [dec_ch]; exact decide_eq_false h) ?_
        exact k0 (by simpa using h) _ _ ⟨_, _, rfl⟩ (Same.upd0 ht)
    · intro H' sm hq
      refine k p H' hp sm ?_
      rw [hq]; unfold cw; rw [List.map_map]; rfl
def prsI (z : Str) (i : Nat) : List Int := (([101, 104, 108] : List Nat).take i).flatMap fun c => prs z c
def alsI (z : Str) (i : Nat) : List Int := (([101, 104, 108] : List Nat).take i).flatMap fun c => als z c
theorem prsI_len (z : Str) (i : Nat) : (prsI z i).length ≤ 3 * z.length := by
  have q : ∀ c, (prs z c).length ≤ z.length := fun c => by rw [prs_len, str_len]; have : cntS c z ≤ z.cps.toList.length := List.count_le_length; omega
  have h : ∀ l : List Nat, (l.flatMap fun c => prs z c).length ≤ l.length * z.length := fun l => by
    induction l with
    | nil => simp
    | cons c l ih => rw [List.flatMap_cons, List.length_append, List.length_cons, Nat.add_mul, Nat.one_mul]; have := q c; omega
  refine Nat.le_trans (h _) (Nat.mul_le_mul_right _ ?_)
  rw [List.length_take]; simp; omega
theorem alsI_len (z : Str) (i : Nat) : (alsI z i).length ≤ 3 * z.length := by
  have q : ∀ c, (als z c).length ≤ z.length := fun c => by rw [als_len, str_len]; have : cntS c z ≤ z.cps.toList.length := List.count_le_length; omega
  have h : ∀ l : List Nat, (l.flatMap fun c => als z c).length ≤ l.length * z.length := fun l => by
    induction l with
    | nil => simp
    | cons c l ih => rw [List.flatMap_cons, List.length_append, List.length_cons, Nat.add_mul, Nat.one_mul]; have := q c; omega
  refine Nat.le_trans (h _) (Nat.mul_le_mul_right _ ?_)
  rw [List.length_take]; simp; omega
theorem three_s {i : Nat} {x : V} (h : ([.str "e", .str "h", .str "l"] : List V)[i]? = some x) : ∃ c, x = .str (ch1 c) ∧ (∀ z, prsI z (i + 1) = prsI z i ++ prs z c) ∧ ∀ z, alsI z (i + 1) = alsI z i ++ als z c := by
  match i, h with
  | 0, h => cases h; exact ⟨101, by rw [s_e], fun z => by simp [prsI], fun z => by simp [alsI]⟩
  | 1, h => cases h; exact ⟨104, by rw [s_h], fun z => by simp [prsI], fun z => by simp [alsI]⟩
  | 2, h => cases h; exact ⟨108, by rw [s_l], fun z => by simp [prsI], fun z => by simp [alsI]⟩
  | n + 3, h => simp at h
theorem cut_to (z : Str) (c : Nat) : cutV ((cw z c).map V.int) none (some ((cntS c z : Int) - (cntS c z : Int) % 2)) = (prs z c).map V.int := by
  have e : ((cntS c z : Int) - (cntS c z : Int) % 2) = ((2 * (cntS c z / 2) : Nat) : Int) := by omega
  rw [e]
  unfold cutV prs
  rw [HT.sIx_none, HT.sIx_nat, List.length_map, cw_len, List.drop_zero, List.map_take]
  congr 1; omega
theorem cut_from (z : Str) (c : Nat) : cutV ((cw z c).map V.int) (some ((cntS c z : Int) - (cntS c z : Int) % 2)) none = (als z c).map V.int := by
  have e : ((cntS c z : Int) - (cntS c z : Int) % 2) = ((2 * (cntS c z / 2) : Nat) : Int) := by omega
  rw [e]
  unfold cutV als
  rw [HT.sIx_none, HT.sIx_nat, List.length_map, cw_len, List.map_drop]
  have e2 : min (2 * (cntS c z / 2)) (cntS c z) = 2 * (cntS c z / 2) := by omega
  rw [e2, List.take_of_length_le]
  rw [List.length_drop, List.length_map, cw_len]; exact Nat.le_refl _
def spPf : Sp := fun vs H Q _ => ∃ (z : Str), vs = [.str z] ∧ z.length ≤ 300 ∧ ∀ (p : Addr) (H' : Hp), H p = none → Same H H' → H' p = some (.lst ((pfF z).map V.int)) → Q (.ref p) H'
theorem sc_paired_first : FnScope ["marks", "pairs", "alone", "sign", "coins", "even"] ["marks"] (defScope (top 30)) := ⟨rfl, rfl, rfl, by decide +kernel, rfl, by decide +kernel, by decide +kernel⟩
theorem ok_pf {f : Addr} {fd : FuncData} (F : Fun K "paired_first" "paired_first" (top 30) f fd) (B : Blt mg) (c_coins_with : Can P w K mg base CX0 1 "coins_with" ["marks", "wanted"] spCoins) : FnOk P w K mg base CX0 2 f fd ["marks"] spPf := by
  refine F.ok sc_paired_first (fun vs H Q E h => ?_) (fun cdv A outer s H vs Q E hr h => ?_)
  · obtain ⟨z, rfl, _⟩ := h; rfl
  · obtain ⟨z, rfl, hz, q⟩ := h
    refine ⟨_, (pss_cons (ps_set (i := 1) sc_paired_first.nd rfl (Or.inl rfl) (pe_lst pa_nil))
      (pss_cons (ps_set (i := 2) sc_paired_first.nd rfl (Or.inl rfl) (pe_lst pa_nil))
      (pss_cons (ps_for PassesOwn.never rfl (pi_tup (pe_tup (pa_cons pe_str (pa_cons pe_str (pa_cons pe_str pa_nil))))) (pg_name (i := 3) sc_paired_first.nd rfl (Or.inl rfl)) (pss_cons (ps_set (i := 4) sc_paired_first.nd rfl (Or.inl rfl) (pe_can c_coins_with (hr.mono (by decide)) pass0 (pa_cons (pv 0) (pa_cons (pv 3) pa_nil)))) (pss_cons (ps_set (i := 5) sc_paired_first.nd rfl (Or.inl rfl) (pe_op op_sub (pe_callB call_len_seq (by rfl) B.len boot_lenB (pa_cons (pv 4) pa_nil)) (pe_op op_mod (pe_callB call_len_seq (by rfl) B.len boot_lenB (pa_cons (pv 4) pa_nil)) pe_int))) (pss_cons (ps_expr (pe_bm PySem.F.plainAttrs_list PySem.F.slot_list_extend PySem.F.type_list_extend mt_extend (pv 1) (pa_cons (pe_slice sl_list (pv 4) po_none (po_some (pv 5))) pa_nil))) (pss_one (ps_expr (pe_bm PySem.F.plainAttrs_list PySem.F.slot_list_extend PySem.F.type_list_extend mt_extend (pv 2) (pa_cons (pe_slice sl_list (pv 4) (po_some (pv 5)) po_none) pa_nil))))))))
      (pss_one (ps_ret (pe_op op_cat (pv 1) (pv 2))))))), ?_⟩
    refine ⟨by show 0 ≤ sizeLine; decide, fun p hp => ⟨by show 0 ≤ sizeLine; decide, fun a ha => ⟨by show 3 ≤ sizeLine; decide, fun t ht => ⟨t, rfl, ⟨_, SqT.of upd_same⟩, ?_⟩⟩⟩⟩
    have hpa : p ≠ a := fun e => by rw [← e, upd_same] at ha; cases ha
    have hpt : p ≠ t := fun e => by rw [← e, upd_ne hpa, upd_same] at ht; cases ht
    have hat : a ≠ t := fun e => by rw [← e, upd_same] at ht; cases ht
    have Ha : H a = none := by rw [upd_ne (Ne.symm hpa)] at ha; exact ha
    have Ht : H t = none := by rw [upd_ne (Ne.symm hat), upd_ne (Ne.symm hpt)] at ht; exact ht
    have z1 : ∀ i, (prsI z i).length ≤ 900 := fun i => by have := prsI_len z i; omega
    have z2 : ∀ i, (alsI z i).length ≤ 900 := fun i => by have := alsI_len z i; omega
    refine for_tup (K := K) (a := t) (xs := [.str "e", .str "h", .str "l"]) (fun i σ H4 => Same H H4 ∧ H4 t = some (.tup [.str "e", .str "h", .str "l"]) ∧ H4 p = some (.lst ((prsI z i).map V.int)) ∧ H4 a = some (.lst ((alsI z i).map V.int)) ∧ ∃ v3 v4 v5, σ = [some (.str z), some (.ref p), some (.ref a), v3, v4, v5]) ?_ ?_ ?_ ?_
    · refine ⟨((Same.upd0 hp).upd ha).upd ht, upd_same, ?_, ?_, none, none, none, rfl⟩
      · rw [upd_ne hpt, upd_ne hpa, upd_same]; rfl
      · rw [upd_ne hat, upd_same]; rfl
    · rintro i σ H4 _ ⟨_, e, _⟩; exact SqT.of e
    · rintro i x σ H4 hx ⟨s4, et, ep, ea, v3, v4, v5, rfl⟩
      obtain ⟨c, rfl, h1, h2⟩ := three_s hx
      refine ⟨_, rfl, _, rfl, z, c, rfl, by omega, fun b H5 hb s5 eb => ?_⟩
      refine ⟨_, rfl, b, _, rfl, .inl (SqL.of eb), _, rfl, b, _, rfl, .inl (SqL.of eb), _, _, rfl, rfl, (by decide : (0 : Int) < 2), _, _, rfl, rfl, ?_⟩
      rw [List.length_map, cw_len]
      refine ⟨_, rfl, .inl ⟨rfl, _, SqL.of (s5 _ _ ep)⟩, _, rfl, _, rfl, _, rfl, b, _, rfl, SqL.of eb, fun d hd => ?_⟩
      rw [cut_to]
      have nb : ∀ {x : Addr} {u : HO}, H5 x = some u → x ≠ d := fun {x u} e => ne_of_none e hd
      have pd : p ≠ d := nb (s5 _ _ ep)
      have ad : a ≠ d := nb (s5 _ _ ea)
      have td : t ≠ d := nb (s5 _ _ et)
      have bd : b ≠ d := nb eb
      have pb : p ≠ b := ne_of_none ep hb
      have ab : a ≠ b := ne_of_none ea hb
      refine ⟨p, d, _, _, rfl, rfl, by rw [upd_ne pd]; exact s5 _ _ ep, upd_same, ?_, ?_⟩
      · rw [List.length_map, List.length_map]
        have := z1 i; have := z1 (i + 1); rw [h1, List.length_append] at this
        exact Nat.le_trans (show _ ≤ 900 by omega) (by decide)
      have H6a : upd (upd H5 d (.lst ((prs z c).map V.int))) p (.lst ((prsI z i).map V.int ++ (prs z c).map V.int)) a = some (.lst ((alsI z i).map V.int)) := by rw [upd_ne (Ne.symm hpa), upd_ne ad]; exact s5 _ _ ea
      have H6b : upd (upd H5 d (.lst ((prs z c).map V.int))) p (.lst ((prsI z i).map V.int ++ (prs z c).map V.int)) b = some (.lst ((cw z c).map V.int)) := by rw [upd_ne (Ne.symm pb), upd_ne bd]; exact eb
      have H6p : upd (upd H5 d (.lst ((prs z c).map V.int))) p (.lst ((prsI z i).map V.int ++ (prs z c).map V.int)) p = some (.lst ((prsI z (i + 1)).map V.int)) := by rw [upd_same, h1, List.map_append]
      have H6t : upd (upd H5 d (.lst ((prs z c).map V.int))) p (.lst ((prsI z i).map V.int ++ (prs z c).map V.int)) t = some (.tup [.str "e", .str "h", .str "l"]) := by rw [upd_ne (Ne.symm hpt), upd_ne td]; exact s5 _ _ et
      have H6s : Same H (upd (upd H5 d (.lst ((prs z c).map V.int))) p (.lst ((prsI z i).map V.int ++ (prs z c).map V.int))) := ((s4.trans s5).upd hd).put' hp
      generalize upd (upd H5 d (.lst ((prs z c).map V.int))) p (.lst ((prsI z i).map V.int ++ (prs z c).map V.int)) = H6 at *
      refine ⟨_, rfl, .inl ⟨rfl, _, SqL.of H6a⟩, _, rfl, _, rfl, _, rfl, b, _, rfl, SqL.of H6b, fun g hg => ?_⟩
      rw [cut_from]
      have pg : p ≠ g := ne_of_none H6p hg
      have ag : a ≠ g := ne_of_none H6a hg
      have tg : t ≠ g := ne_of_none H6t hg
      refine ⟨a, g, _, _, rfl, rfl, by rw [upd_ne ag]; exact H6a, upd_same, ?_, ?_⟩
      · rw [List.length_map, List.length_map]
        have := z2 i; have := z2 (i + 1); rw [h2, List.length_append] at this
        exact Nat.le_trans (show _ ≤ 900 by omega) (by decide)
      refine ⟨(H6s.upd hg).put' Ha, ?_, ?_, ?_, _, _, _, rfl⟩
      · rw [upd_ne (Ne.symm hat), upd_ne tg]; exact H6t
      · rw [upd_ne hpa, upd_ne pg]; exact H6p
      · rw [upd_same, h2, List.map_append]
    · rintro σ H4 ⟨s4, et, ep, ea, v3, v4, v5, rfl⟩
      refine ⟨_, rfl, _, rfl, p, a, _, _, rfl, rfl, ep, ea, ?_, fun g hg => ?_⟩
      · rw [List.length_map, List.length_map]
        have := z1 3; have := z2 3
        exact Nat.le_trans (show _ ≤ 1800 by simp at *; omega) (by decide)
      · refine q g _ ?_ (s4.upd hg) ?_
        · cases e : H g with
          | none => rfl
          | some u => rw [s4 _ _ e] at hg; cases hg
        · rw [upd_same, ← List.map_append]
          have e1 : prsI z 3 = prs z 101 ++ (prs z 104 ++ prs z 108) := by simp [prsI]
          have e2 : alsI z 3 = als z 101 ++ (als z 104 ++ als z 108) := by simp [alsI]
          show some (HO.lst ((prsI z 3 ++ alsI z 3).map V.int)) = _
          rw [e1, e2]; rfl
def spKept : Sp := fun vs H Q _ => ∃ (z : Str) (M : Nat), vs = [.str z, .int M] ∧ 0 < M ∧ Q (.int (keepF z M)) H
theorem sc_kept_off : FnScope ["marks", "most"] ["marks", "most"] (defScope (top 31)) := ⟨rfl, rfl, rfl, by decide +kernel, rfl, by decide +kernel, by decide +kernel⟩
theorem ok_kept {f : Addr} {fd : FuncData} (F : Fun K "kept_off" "kept_off" (top 31) f fd) : FnOk P w K mg base CX0 1 f fd ["marks", "most"] spKept := by
  refine F.ok sc_kept_off (fun vs H Q E h => ?_) (fun cdv A outer s H vs Q E hr h => ?_)
  · obtain ⟨z, M, rfl, _⟩ := h; rfl
  · obtain ⟨z, M, rfl, hM, q⟩ := h
    refine ⟨_, (pss_one (ps_ret (pe_ifExp (pt_cmpR op_in_str pe_str (pv 0) rfl) (pe_op op_fdiv (pe_op op_sub (pv 1) pe_int) pe_int) (pv 1)))), ?_⟩
    refine ⟨_, rfl, _, _, rfl, rfl, _, rfl, ?_⟩
    rw [s_e, PySem.StrLaws.found_one]
    unfold keepF at q
    by_cases h : 101 ∈ z.cps.toList
    · rw [if_pos h] at q
      refine tru (by simpa using h) ⟨_, rfl, _, _, rfl, rfl, _, _, rfl, rfl, ⟨by decide, by decide⟩, ?_⟩
      have e : ((M : Int) - 1) / 2 = (((M - 1) / 2 : Nat) : Int) := by omega
      show Q (.int (((M : Int) - 1) / 2)) H
      rw [e]; exact q
    · rw [if_neg h] at q
      exact fls (by simpa using h) ⟨_, rfl, q⟩
end
end Ks
end
section
namespace Ks
open PySem L2 Mir PyProof.Rows
structure AA where
  ans : Addr
  heavy : Addr
  light : Addr
  nothing : Addr
  opn : Addr
structure ACls (K : PySem.W.Frag) (C : Addr) : Prop where
  cl : Cls K C
  ha : PySem.W.findIn K (.ref C) "__class__" = some (some (.builtin "object.__class__"))
  hm : PySem.W.mroIn K C (.type "object") = some true
structure Anss (K : PySem.W.Frag) (mg : Str → Option Value) (e : AA) : Prop where
  m_Answer : mg "Answer" = some (.ref e.ans)
  m_Heavy : mg "Heavy" = some (.ref e.heavy)
  m_Light : mg "Light" = some (.ref e.light)
  m_Nothing : mg "Nothing" = some (.ref e.nothing)
  m_Open : mg "Open" = some (.ref e.opn)
  cH : ACls K e.heavy
  cL : ACls K e.light
  cN : ACls K e.nothing
  cO : ACls K e.opn
  nHc : NoAttr K e.heavy "coin"
  nLc : NoAttr K e.light "coin"
  nOl : NoAttr K e.opn "left"
  nOr : NoAttr K e.opn "right"
  nOm : NoAttr K e.opn "many"
  mN : Mk0 K e.nothing
  hn : PySem.W.specialIn K (.builtin "object.__class__") "__get__" = some (some (.builtin "getset_descriptor.__get__"))
  htk : PySem.W.takesIn K (.builtin "object.__class__") = some true
  k1 : PySem.W.kitOne K (.ref e.heavy) (.ref e.heavy) = some true
  k2 : PySem.W.kitOne K (.ref e.heavy) (.ref e.light) = some false
  k3 : PySem.W.kitOne K (.ref e.heavy) (.ref e.nothing) = some false
  k4 : PySem.W.kitOne K (.ref e.heavy) (.ref e.opn) = some false
  k5 : PySem.W.kitOne K (.ref e.light) (.ref e.heavy) = some false
  k6 : PySem.W.kitOne K (.ref e.light) (.ref e.light) = some true
  k7 : PySem.W.kitOne K (.ref e.light) (.ref e.nothing) = some false
  k8 : PySem.W.kitOne K (.ref e.light) (.ref e.opn) = some false
  k9 : PySem.W.kitOne K (.ref e.nothing) (.ref e.heavy) = some false
  ka : PySem.W.kitOne K (.ref e.nothing) (.ref e.light) = some false
  kb : PySem.W.kitOne K (.ref e.nothing) (.ref e.nothing) = some true
  kc : PySem.W.kitOne K (.ref e.nothing) (.ref e.opn) = some false
  kd : PySem.W.kitOne K (.ref e.opn) (.ref e.heavy) = some false
  ke : PySem.W.kitOne K (.ref e.opn) (.ref e.light) = some false
  kf : PySem.W.kitOne K (.ref e.opn) (.ref e.nothing) = some false
  kg : PySem.W.kitOne K (.ref e.opn) (.ref e.opn) = some true
theorem Anss.ty {K : PySem.W.Frag} {mg : Str → Option Value} {e : AA} (A : Anss K mg e) {C : Addr} (c : ACls K C) {H : Hp} {a dx : Addr} {fs : List (Str × V)} (h : H a = some (.ins C dx fs)) : TyOf K H (.ref a) (.ref C) := .ins h c.cl c.ha A.hn A.htk c.hm
theorem ref_only {a : Addr} : ∀ u, RelV (V.ref a) u → u = Value.ref a := fun u h => h
section
variable {P : Program} {w : World} {K : PySem.W.Frag} {mg : Str → Option Value} {base : Heap}
def spIni (C : Addr) : Sp := fun vs H Q _ => ∃ (x dx : Addr) (v : V), vs = [.ref x, v] ∧ H x = some (.ins C dx []) ∧ Q .non (upd H x (.ins C dx [("coin", v)]))
theorem sc_iniH : FnScope ["self", "coin"] ["self", "coin"] (defScope (inClass (top 24) 0)) := ⟨rfl, rfl, rfl, by decide +kernel, rfl, by decide +kernel, by decide +kernel⟩
theorem ok_iniH {f : Addr} {fd : FuncData} {C : Addr} (F : Fun K "__init__" "Heavy.__init__" (inClass (top 24) 0) f fd) (c : Cls K C) (n : NoAttr K C "coin") : FnOk P w K mg base CX0 1 f fd ["self", "coin"] (spIni C) := by
  refine F.ok sc_iniH (fun vs H Q E h => ?_) (fun cdv A outer s H vs Q E hr h => ?_)
  · obtain ⟨x, dx, v, rfl, _⟩ := h; rfl
  · obtain ⟨x, dx, v, rfl, hx, q⟩ := h
    refine ⟨_, pss_one (ps_fld (pv 0) (pv 1) rfl), ?_⟩
    exact ⟨_, rfl, _, rfl, x, C, dx, [], rfl, hx, c, n, by decide, q⟩
theorem sc_iniL : FnScope ["self", "coin"] ["self", "coin"] (defScope (inClass (top 25) 0)) := ⟨rfl, rfl, rfl, by decide +kernel, rfl, by decide +kernel, by decide +kernel⟩
theorem ok_iniL {f : Addr} {fd : FuncData} {C : Addr} (F : Fun K "__init__" "Light.__init__" (inClass (top 25) 0) f fd) (c : Cls K C) (n : NoAttr K C "coin") : FnOk P w K mg base CX0 1 f fd ["self", "coin"] (spIni C) := by
  refine F.ok sc_iniL (fun vs H Q E h => ?_) (fun cdv A outer s H vs Q E hr h => ?_)
  · obtain ⟨x, dx, v, rfl, _⟩ := h; rfl
  · obtain ⟨x, dx, v, rfl, hx, q⟩ := h
    refine ⟨_, pss_one (ps_fld (pv 0) (pv 1) rfl), ?_⟩
    exact ⟨_, rfl, _, rfl, x, C, dx, [], rfl, hx, c, n, by decide, q⟩
def opF (a b : Addr) (m : V) : List (Str × V) := [("left", .ref a), ("right", .ref b), ("many", m)]
def spIniO (C : Addr) : Sp := fun vs H Q _ => ∃ (x dx a b : Addr) (l r : List V) (m : V), vs = [.ref x, .ref a, .ref b, m] ∧ H x = some (.ins C dx []) ∧ H a = some (.lst l) ∧ H b = some (.lst r) ∧
  ∀ (c d : Addr) (H' : Hp), H c = none → H d = none → c ≠ d → (∀ y u, y ≠ x → H y = some u → H' y = some u) → H' c = some (.lst l) → H' d = some (.lst r) → H' x = some (.ins C dx (opF c d m)) → Q .non H'
theorem sc_iniO : FnScope ["self", "left", "right", "many"] ["self", "left", "right", "many"] (defScope (inClass (top 27) 0)) := ⟨rfl, rfl, rfl, by decide +kernel, rfl, by decide +kernel, by decide +kernel⟩
theorem ok_iniO {f : Addr} {fd : FuncData} {C : Addr} (F : Fun K "__init__" "Open.__init__" (inClass (top 27) 0) f fd) (B : Blt mg) (k : Cls K C) (n1 : NoAttr K C "left") (n2 : NoAttr K C "right") (n3 : NoAttr K C "many") : FnOk P w K mg base CX0 1 f fd ["self", "left", "right", "many"] (spIniO C) := by
  refine F.ok sc_iniO (fun vs H Q E h => ?_) (fun cdv A outer s H vs Q E hr h => ?_)
  · obtain ⟨x, dx, a, b, l, r, m, rfl, _⟩ := h; rfl
  · obtain ⟨x, dx, a, b, l, r, m, rfl, hx, ha, hb, q⟩ := h
    refine ⟨_, pss_cons (ps_fld (pv 0) (pe_callTy call_list_of (by rfl) B.list boot_listT (pa_cons (pv 1) pa_nil)) rfl) (pss_cons (ps_fld (pv 0) (pe_callTy call_list_of (by rfl) B.list boot_listT (pa_cons (pv 2) pa_nil)) rfl) (pss_one (ps_fld (pv 0) (pv 3) rfl))), ?_⟩
    refine ⟨_, rfl, a, _, rfl, .inl (SqL.of ha), fun c hc => ?_⟩
    have xc : x ≠ c := ne_of_none hx hc
    have bc : b ≠ c := ne_of_none hb hc
    have xb : b ≠ x := fun e => by rw [e, hx] at hb; cases hb
    refine ⟨_, rfl, x, C, dx, [], rfl, by rw [upd_ne xc]; exact hx, k, n1, by decide, ?_⟩
    refine ⟨_, rfl, b, _, rfl, .inl (SqL.of (by rw [upd_ne xb, upd_ne bc]; exact hb)), fun d hd => ?_⟩
    have xd : x ≠ d := fun e => by rw [← e, upd_same] at hd; cases hd
    have cd : c ≠ d := fun e => by rw [← e, upd_ne (Ne.symm xc), upd_same] at hd; cases hd
    have Hd : H d = none := by rw [upd_ne (Ne.symm xd), upd_ne (Ne.symm cd)] at hd; exact hd
    refine ⟨_, rfl, x, C, dx, _, rfl, by rw [upd_ne xd, upd_same], k, n2, by simp [putF], ?_⟩
    refine ⟨_, rfl, _, rfl, x, C, dx, _, rfl, upd_same, k, n3, by simp [putF]; split <;> simp, ?_⟩
    refine q c d _ hc Hd cd (fun y u hy e => ?_) ?_ ?_ ?_
    · rw [upd_ne hy, upd_ne hy, upd_ne (ne_of_none e Hd), upd_ne hy, upd_ne (ne_of_none e hc)]; exact e
    · rw [upd_ne (Ne.symm xc), upd_ne (Ne.symm xc), upd_ne cd, upd_ne (Ne.symm xc), upd_same]
    · rw [upd_ne (Ne.symm xd), upd_ne (Ne.symm xd), upd_same]
    · rw [upd_same]; rfl
end
end Ks
end
section
namespace L2
open PySem PySem.Spec PyProof.Rows
def CanM (P : Program) (w : World) (K : PySem.W.Frag) (mg : Str → Option Value) (base : Heap) (k : Nat) (x : Str) (C : Addr) (ps : List Str) (sp : Sp) : Prop :=
  ∃ f fd, mg x = some (.ref C) ∧ Mk K C f ∧ Binds K fd ps [] ∧ FnOk P w K mg base CX0 k f fd ps sp
theorem pe_canM {X : Cx} {k : Nat} {x : Str} {C : Addr} {ps : List Str} {sp : Sp} {e : Expr} {es : List Expr} {t : TA} {p pos : Pos} (M : CanM X.prog X.w X.K X.mg X.base k x C ps sp) (hr : Room (k + 1) X.A) (ha : PA X (e :: es) t) (hg : Gl X x := by rfl)
    (hdb : (x == ("__debug__" : Str)) = false := by decide) (he : starEach (e :: es) X.env = (false, eval e X.env) :: starEach es X.env := by rfl) (hpl : (backTo pos (starEach es X.env)).any (·.1) = false := by rfl) : PE X (.Call (.Name x p) (e :: es) [] pos) (tMake C sp [] E0 t) := by
  obtain ⟨f, fd, h1, h2, h3, h4⟩ := M
  exact pe_make h2 h4 hr hg h1 h3 .nil pass0 ha hdb he hpl
theorem Same.none {H H' : Hp} {a : Addr} (s : Same H H') (h : H' a = none) : H a = none := by
  cases e : H a with
  | none => rfl
  | some u => rw [s _ _ e] at h; cases h
end L2
namespace Ks
open PySem L2 Mir PyProof.Rows
section
variable {P : Program} {w : World} {K : PySem.W.Frag} {mg : Str → Option Value} {base : Heap}
structure OpenAns (e : AA) (z : Str) (m : Nat) (H H' : Hp) (x dx a b : Addr) (l r : List Int) : Prop where
  nx : H x = none
  na : H a = none
  nb : H b = none
  ab : a ≠ b
  ox : H' x = some (.ins e.opn dx (opF a b (.int m)))
  oa : H' a = some (.lst (l.map V.int))
  ob : H' b = some (.lst (r.map V.int))
  wg : Wg z.length l r
  ll : l.length < 128
  jd : ∀ o, jd z l r o ≤ 3 ^ (m - 1)
def spFirst (e : AA) : Sp := fun vs H Q _ => ∃ (z : Str) (m : Nat), vs = [.str z, .int m] ∧ MkOk z ∧ z.length ≤ 252 ∧ IsFew (csF z) m ∧ 0 < m ∧
  ∀ (x dx a b : Addr) (l r : List Int) (H' : Hp), Same H H' → OpenAns e z m H H' x dx a b l r → Q (.ref x) H'
theorem sc_first_weighing : FnScope ["marks", "many", "coins", "on", "left", "right"] ["marks", "many"] (defScope (top 32)) := ⟨rfl, rfl, rfl, by decide +kernel, rfl, by decide +kernel, by decide +kernel⟩
theorem ok_first {f : Addr} {fd : FuncData} {e : AA} (F : Fun K "first_weighing" "first_weighing" (top 32) f fd) (B : Blt mg) (c_paired_first : Can P w K mg base CX0 2 "paired_first" ["marks"] spPf) (c_kept_off : Can P w K mg base CX0 1 "kept_off" ["marks", "most"] spKept)
    (c_most_cases : Can P w K mg base CX0 1 "most_cases" ["weighings"] spMost) (c_Open : CanM P w K mg base 1 "Open" e.opn ["self", "left", "right", "many"] (spIniO e.opn)) : FnOk P w K mg base CX0 3 f fd ["marks", "many"] (spFirst e) := by
  refine F.ok sc_first_weighing (fun vs H Q E h => ?_) (fun cdv A outer s H vs Q E hr h => ?_)
  · obtain ⟨z, m, rfl, _⟩ := h; rfl
  · obtain ⟨z, m, rfl, M, hz, Fw, hm, q⟩ := h
    refine ⟨_, (pss_cons (ps_set (i := 2) sc_first_weighing.nd rfl (Or.inl rfl) (pe_can c_paired_first (hr.mono (by decide)) pass0 (pa_cons (pv 0) pa_nil)))
      (pss_cons (ps_set (i := 3) sc_first_weighing.nd rfl (Or.inl rfl) (pe_op op_sub (pe_callB call_len_seq (by rfl) B.len boot_lenB (pa_cons (pv 2) pa_nil)) (pe_can c_kept_off (hr.mono (by decide)) pass0 (pa_cons (pv 0) (pa_cons (pe_can c_most_cases (hr.mono (by decide)) pass0 (pa_cons (pe_op op_sub (pv 1) pe_int) pa_nil)) pa_nil)))))
      (pss_cons (ps_set (i := 4) sc_first_weighing.nd rfl (Or.inl rfl) (pe_slice3 sl_ints3 (pv 2) (po_some pe_int) (po_some (pv 3)) (po_some pe_int)))
      (pss_cons (ps_set (i := 5) sc_first_weighing.nd rfl (Or.inl rfl) (pe_slice3 sl_ints3 (pv 2) (po_some pe_int) (po_some (pv 3)) (po_some pe_int)))
      (pss_cons (ps_if (pt_cmpR op_gt (pe_callB call_len_seq (by rfl) B.len boot_lenB (pa_cons (pv 4) pa_nil)) (pe_callB call_len_seq (by rfl) B.len boot_lenB (pa_cons (pv 5) pa_nil)) (nomark _)) (pss_one (ps_expr (pe_bm PySem.F.plainAttrs_list PySem.F.slot_list_append PySem.F.type_list_append mt_append (pv 5) (pa_cons (pe_callB call_len_str (by rfl) B.len boot_lenB (pa_cons (pv 0) pa_nil)) pa_nil)))) pss_nil)
      (pss_one (ps_ret (pe_canM c_Open (hr.mono (by decide)) (pa_cons (pe_callB call_sortedL2 (by rfl) B.sorted boot_sortedB (pa_cons (pv 4) pa_nil)) (pa_cons (pe_callB call_sortedL2 (by rfl) B.sorted boot_sortedB (pa_cons (pv 5) pa_nil)) (pa_cons (pv 1) pa_nil))))))))))), ?_⟩
    have mle : m ≤ 601 := Nat.le_trans Fw.le (cs_le M)
    refine ⟨_, rfl, z, rfl, by omega, fun p H1 hp s1 ep => ?_⟩
    refine ⟨_, rfl, p, _, rfl, .inl (SqL.of ep), _, rfl, _, rfl, _, _, rfl, rfl, _, rfl, by omega, by omega, z, _, rfl, Nat.pos_of_ne_zero (by have := pow3_odd ((m : Int) - 1).toNat; omega), _, _, rfl, rfl, ?_⟩
    obtain ⟨b1, b2, b3, b4⟩ := first_jd (on := (pfF z).length - keepF z (3 ^ (m - 1))) M Fw hm rfl
    have em : ((m : Int) - 1).toNat = m - 1 := by omega
    rw [em, List.length_map, show (fun i j : Int => V.int (i - j)) ((pfF z).length : Int) ((keepF z (3 ^ (m - 1)) : Nat) : Int) = V.int (((pfF z).length - keepF z (3 ^ (m - 1)) : Nat) : Int) from congrArg V.int (by omega)]
    generalize hon : (pfF z).length - keepF z (3 ^ (m - 1)) = on at *
    have pfl : (pfF z).length ≤ 252 := by
      rw [pf_len]; have := signs_count M.sg; rw [str_len] at hz; unfold cntS; omega
    refine ⟨_, rfl, _, rfl, _, rfl, _, rfl, _, rfl, p, pfF z, rfl, SqL.of ep, by decide, fun a ha => ?_⟩
    rw [pick_ev _ _ b2]
    have pa' : p ≠ a := ne_of_none ep ha
    have ep2 : upd H1 a (.lst ((evs ((pfF z).take on)).map V.int)) p = some (.lst ((pfF z).map V.int)) := by rw [upd_ne pa']; exact ep
    refine ⟨_, rfl, _, rfl, _, rfl, _, rfl, _, rfl, p, pfF z, rfl, SqL.of ep2, by decide, fun b hb => ?_⟩
    rw [pick_od _ _ b2]
    have ab : a ≠ b := fun e => by rw [← e, upd_same] at hb; cases hb
    have Ha : H1 a = none := ha
    have Hb : H1 b = none := by rw [upd_ne (Ne.symm ab)] at hb; exact hb
    have l1 := evs_len ((pfF z).take on)
    have l2 := ods_len ((pfF z).take on)
    have l3 : ((pfF z).take on).length ≤ 252 := by rw [List.length_take]; omega
    have ea : upd (upd H1 a (.lst ((evs ((pfF z).take on)).map V.int))) b (.lst ((ods ((pfF z).take on)).map V.int)) a = some (.lst ((evs ((pfF z).take on)).map V.int)) := by rw [upd_ne ab, upd_same]
    have tkN : ((pfF z).take on).Nodup := (pf_nodup z).sublist (List.take_sublist _ _)
    have eoN : (evs ((pfF z).take on) ++ ods ((pfF z).take on)).Nodup := (evs_ods _).nodup_iff.mpr tkN
    have evN : (evs ((pfF z).take on)).Nodup := (List.nodup_append.mp eoN).1
    have odN : ∀ bes : List Int, bes = (if (ods ((pfF z).take on)).length < (evs ((pfF z).take on)).length then [(z.length : Int)] else []) → (ods ((pfF z).take on) ++ bes).Nodup := by
      intro bes hb
      rw [hb]
      split
      · rw [List.nodup_append]
        refine ⟨(List.nodup_append.mp eoN).2.1, by simp, fun x hx y hy e => ?_⟩
        have hx' := (pf_mem (List.mem_of_mem_take (ods_mem hx))).2.1
        rw [List.mem_singleton.mp hy] at e
        omega
      · rw [List.append_nil]; exact (List.nodup_append.mp eoN).2.1
    have fin : ∀ (bes : List Int) (H2 : Hp), bes = (if (ods ((pfF z).take on)).length < (evs ((pfF z).take on)).length then [(z.length : Int)] else []) → Same H1 H2 → H2 a = some (.lst ((evs ((pfF z).take on)).map V.int)) → H2 b = some (.lst ((ods ((pfF z).take on) ++ bes).map V.int)) →
        tMake e.opn (spIniO e.opn) [] E0 (tCons (tCB (fun xs H Q => ∃ (a : Addr) (ns : List Int), xs = [V.ref a] ∧ SqL K H a (ns.map V.int) ∧ ns.length < 128 ∧ ns.Nodup ∧ ∀ (p : Addr) (ms : List Int), H p = none → List.Perm ms ns → ms.Pairwise (· ≤ ·) → Q (.ref p) (upd H p (.lst (ms.map V.int)))) (tCons (tVar 4) tNil)) (tCons (tCB (fun xs H Q => ∃ (a : Addr) (ns : List Int), xs = [V.ref a] ∧ SqL K H a (ns.map V.int) ∧ ns.length < 128 ∧ ns.Nodup ∧ ∀ (p : Addr) (ms : List Int), H p = none → List.Perm ms ns → ms.Pairwise (· ≤ ·) → Q (.ref p) (upd H p (.lst (ms.map V.int)))) (tCons (tVar 5) tNil)) (tCons (tVar 1) tNil)))
          [some (.str z), some (.int m), some (.ref p), some (.int on), some (.ref a), some (.ref b)] H2 Q := by
      intro bes H2 hbes s2 e2a e2b
      have lb : bes.length ≤ 1 := by rw [hbes]; split <;> simp
      refine ⟨_, rfl, a, _, rfl, SqL.of e2a, by omega, evN, fun c l hc pl' sl => ?_⟩
      have bc : b ≠ c := ne_of_none e2b hc
      refine ⟨_, rfl, b, _, rfl, SqL.of (by rw [upd_ne bc]; exact e2b), by rw [List.length_append]; omega, odN bes hbes, fun d r hd pr sr => ?_⟩
      have cd : c ≠ d := fun e => by rw [← e, upd_same] at hd; cases hd
      have Hd : H2 d = none := by rw [upd_ne (Ne.symm cd)] at hd; exact hd
      refine ⟨_, rfl, fun x dx hx hdx ne => ?_⟩
      have s3 : Same H2 (upd (upd H2 c (.lst (l.map V.int))) d (.lst (r.map V.int))) := (Same.upd0 hc).upd hd
      have e3c : upd (upd H2 c (.lst (l.map V.int))) d (.lst (r.map V.int)) c = some (.lst (l.map V.int)) := by rw [upd_ne cd, upd_same]
      have e3d : upd (upd H2 c (.lst (l.map V.int))) d (.lst (r.map V.int)) d = some (.lst (r.map V.int)) := upd_same
      generalize upd (upd H2 c (.lst (l.map V.int))) d (.lst (r.map V.int)) = H3 at *
      have k : ∀ y u, H3 y = some u → upd (upd H3 dx (.own x)) x (.ins e.opn dx []) y = some u := fun y u h => by rw [upd_ne (ne_of_none h hx), upd_ne (ne_of_none h hdx)]; exact h
      refine ⟨x, dx, c, d, _, _, _, rfl, upd_same, k _ _ e3c, k _ _ e3d, fun c' d' H' hc' hd' cd' keep ec' ed' ex => ⟨rfl, ?_⟩⟩
      have all : Same H H3 := (s1.trans s2).trans s3
      have nn : ∀ y, upd (upd H3 dx (.own x)) x (.ins e.opn dx []) y = none → H3 y = none := fun y h => by
        cases q3 : H3 y with
        | none => rfl
        | some u => rw [k y u q3] at h; cases h
      obtain ⟨W, J⟩ := first_ok (on := on) M Fw hm hon.symm pl' sl pr sr hbes
      refine q x dx c' d' l r H' (fun y u h => keep y u (ne_of_none (all _ _ h) hx) (k _ _ (all _ _ h))) ⟨all.none hx, all.none (nn _ hc'), all.none (nn _ hd'), cd', ex, ec', ed', W, ?_, J⟩
      rw [pl'.length_eq]; omega
    refine ⟨_, rfl, a, _, rfl, .inl (SqL.of ea), _, rfl, b, _, rfl, .inl (SqL.of upd_same), _, _, rfl, rfl, _, rfl, ?_⟩
    rw [List.length_map, List.length_map]
    by_cases hgt : (ods ((pfF z).take on)).length < (evs ((pfF z).take on)).length
    · refine tru (decide_eq_true (by omega)) ?_
      refine ⟨_, rfl, .inl ⟨rfl, _, SqL.of upd_same⟩, _, rfl, z, rfl, Nat.le_trans hz (by decide), b, _, _, rfl, rfl, upd_same, Nat.lt_of_le_of_lt (show _ ≤ 200 by rw [List.length_map]; omega) (by decide), ?_⟩
      refine fin [(z.length : Int)] _ (by rw [if_pos hgt]) (((Same.upd0 ha).upd hb).put' Hb) ?_ ?_
      · rw [upd_ne ab]; exact ea
      · rw [upd_same, List.map_append]; rfl
    · refine fls (decide_eq_false (by omega)) ?_
      refine fin [] _ (by rw [if_neg hgt]) ((Same.upd0 ha).upd hb) ea ?_
      rw [upd_same, List.append_nil]
end
end Ks
end
section
namespace Ks
open PySem L2 Mir PyProof.Rows
theorem first_ix {c : Nat} : ∀ (l : List Nat), c ∈ l → ∃ i : Nat, l[i]? = some c ∧ ∀ j : Nat, j < i → l[j]? ≠ some c
  | [], h => by simp at h
  | d :: l, h => by
    by_cases e : d = c
    · exact ⟨0, by rw [e]; rfl, fun j hj => by omega⟩
    · rcases List.mem_cons.mp h with q | q
      · exact absurd q.symm e
      · obtain ⟨i, h1, h2⟩ := first_ix l q
        refine ⟨i + 1, by simpa using h1, fun j hj => ?_⟩
        cases j with
        | zero => simpa using e
        | succ j => simpa using h2 j (by omega)
section
variable {P : Program} {w : World} {K : PySem.W.Frag} {mg : Str → Option Value} {base : Heap}
def coinF (i : Nat) : List (Str × V) := [("coin", .int i)]
structure TdAns (e : AA) (z : Str) (H : Hp) (Q : VK) : Prop where
  op : ∀ (m : Nat) (x dx a b : Addr) (l r : List Int) (H' : Hp), IsFew (csF z) m → 0 < m → Same H H' → OpenAns e z m H H' x dx a b l r → Q (.ref x) H'
  hv : ∀ (i : Nat) (x dx : Addr) (H' : Hp), csF z = 1 → z.cps.toList[i]? = some 104 → H x = none → Same H H' → H' x = some (.ins e.heavy dx (coinF i)) → Q (.ref x) H'
  lt : ∀ (i : Nat) (x dx : Addr) (H' : Hp), csF z = 1 → 104 ∉ z.cps.toList → z.cps.toList[i]? = some 108 → H x = none → Same H H' → H' x = some (.ins e.light dx (coinF i)) → Q (.ref x) H'
  no : ∀ (x dx : Addr) (H' : Hp), csF z = 1 → allG z = true → H x = none → Same H H' → H' x = some (.ins e.nothing dx []) → Q (.ref x) H'
def spTd (e : AA) : Sp := fun vs H Q _ => ∃ (z : Str), vs = [.str z] ∧ MkOk z ∧ z.length ≤ 252 ∧ TdAns e z H Q
theorem sc_told : FnScope ["marks", "many"] ["marks"] (defScope (top 33)) := ⟨rfl, rfl, rfl, by decide +kernel, rfl, by decide +kernel, by decide +kernel⟩
theorem ok_td {f : Addr} {fd : FuncData} {e : AA} (F : Fun K "told" "told" (top 33) f fd) (An : Anss K mg e) (c_fewest : Can P w K mg base CX0 3 "fewest" ["marks"] spFew) (c_first_weighing : Can P w K mg base CX0 3 "first_weighing" ["marks", "many"] (spFirst e))
    (c_Heavy : CanM P w K mg base 1 "Heavy" e.heavy ["self", "coin"] (spIni e.heavy)) (c_Light : CanM P w K mg base 1 "Light" e.light ["self", "coin"] (spIni e.light)) : FnOk P w K mg base CX0 4 f fd ["marks"] (spTd e) := by
  refine F.ok sc_told (fun vs H Q E h => ?_) (fun cdv A outer s H vs Q E hr h => ?_)
  · obtain ⟨z, rfl, _⟩ := h; rfl
  · obtain ⟨z, rfl, M, hz, q⟩ := h
    refine ⟨_, (pss_cons (ps_set (i := 1) sc_told.nd rfl (Or.inl rfl) (pe_can c_fewest (hr.mono (by decide)) pass0 (pa_cons (pv 0) pa_nil)))
      (pss_cons (ps_if (pt_cmpR op_gt (pv 1) pe_int (nomark _)) (pss_one (ps_ret (pe_can c_first_weighing (hr.mono (by decide)) pass0 (pa_cons (pv 0) (pa_cons (pv 1) pa_nil))))) pss_nil)
      (pss_cons (ps_if (pt_cmpR op_in_str pe_str (pv 0) rfl) (pss_one (ps_ret (pe_canM c_Heavy (hr.mono (by decide)) (pa_cons (pe_bm PySem.F.plainAttrs_str PySem.F.slot_str_index PySem.F.type_str_index mt_sindex (pv 0) (pa_cons pe_str pa_nil)) pa_nil)))) pss_nil)
      (pss_cons (ps_if (pt_cmpR op_in_str pe_str (pv 0) rfl) (pss_one (ps_ret (pe_canM c_Light (hr.mono (by decide)) (pa_cons (pe_bm PySem.F.plainAttrs_str PySem.F.slot_str_index PySem.F.type_str_index mt_sindex (pv 0) (pa_cons pe_str pa_nil)) pa_nil)))) pss_nil)
      (pss_one (ps_ret (pe_make00 An.mN (by rfl) An.m_Nothing))))))), ?_⟩
    refine ⟨_, rfl, z, rfl, M, fun m Fw => ?_⟩
    refine ⟨_, rfl, _, _, rfl, rfl, _, rfl, ?_⟩
    by_cases hm : 0 < m
    · refine tru (decide_eq_true (by omega)) ?_
      exact ⟨_, rfl, _, rfl, z, m, rfl, M, hz, Fw, hm, fun x dx a b l r H' s' O => q.op m x dx a b l r H' Fw hm s' O⟩
    · have m0 : m = 0 := by omega
      subst m0
      have c1 : csF z = 1 := by have := Fw.1; have := cs_pos z; simp at *; omega
      refine fls (decide_eq_false (by omega)) ?_
      refine ⟨_, rfl, _, _, rfl, rfl, _, rfl, ?_⟩
      rw [s_h, PySem.StrLaws.found_one]
      by_cases h1 : 104 ∈ z.cps.toList
      · refine tru (by simpa using h1) ?_
        obtain ⟨i, i1, i2⟩ := first_ix _ h1
        refine ⟨_, rfl, rfl, z, 104, i, rfl, rfl, i1, i2, fun x dx hx hdx ne => ?_⟩
        refine ⟨x, dx, _, rfl, upd_same, rfl, ?_⟩
        exact q.hv i x dx _ c1 i1 hx (((Same.upd0 hdx).put' hx).put' hx) upd_same
      · refine fls (by simpa using h1) ?_
        refine ⟨_, rfl, _, _, rfl, rfl, _, rfl, ?_⟩
        rw [s_l, PySem.StrLaws.found_one]
        by_cases h2 : 108 ∈ z.cps.toList
        · refine tru (by simpa using h2) ?_
          obtain ⟨i, i1, i2⟩ := first_ix _ h2
          refine ⟨_, rfl, rfl, z, 108, i, rfl, rfl, i1, i2, fun x dx hx hdx ne => ?_⟩
          refine ⟨x, dx, _, rfl, upd_same, rfl, ?_⟩
          exact q.lt i x dx _ c1 h1 i1 hx (((Same.upd0 hdx).put' hx).put' hx) upd_same
        · refine fls (by simpa using h2) ?_
          intro x dx hx hdx ne
          exact q.no x dx _ c1 (allG_iff.mpr ⟨cnt0.mpr h1, cnt0.mpr h2⟩) hx ((Same.upd0 hdx).put' hx) upd_same
end
end Ks
end
section
namespace Ks
open PySem L2 Mir PyProof.Rows
def oneB (z : Str) (i : Int) (c : Nat) : Bool := decide (csF z = 1) && (decide (0 ≤ i) && (decide (i < z.length) && decide (z.cps.toList[i.toNat]? = some c)))
def OpenP (z : Str) (l r : List Int) (m : Int) : Prop := csF z ≠ 1 ∧ (∃ k : Nat, m = k ∧ IsFew (csF z) k) ∧ cwOk z.length l r = true ∧ ∀ o, jd z l r o ≤ 3 ^ (m - 1).toNat
theorem opF_l {a b : Addr} {v : V} : (opF a b v).lookup ("left" : Str) = some (.ref a) := by unfold opF; simp [List.lookup]
theorem opF_r {a b : Addr} {v : V} : (opF a b v).lookup ("right" : Str) = some (.ref b) := by
  have e : (("right" : Str) == ("left" : Str)) = false := by decide +kernel
  unfold opF; simp [List.lookup, e]
theorem opF_m {a b : Addr} {v : V} : (opF a b v).lookup ("many" : Str) = some v := by
  have e : (("many" : Str) == ("left" : Str)) = false := by decide +kernel
  have e2 : (("many" : Str) == ("right" : Str)) = false := by decide +kernel
  unfold opF; simp [List.lookup, e, e2]
theorem opF_s {a b : Addr} {v : V} : (opF a b v).lookup ("shows" : Str) = none := by
  have e : (("shows" : Str) == ("left" : Str)) = false := by decide +kernel
  have e2 : (("shows" : Str) == ("right" : Str)) = false := by decide +kernel
  have e3 : (("shows" : Str) == ("many" : Str)) = false := by decide +kernel
  unfold opF; simp [List.lookup, e, e2, e3]
theorem coF_c {v : V} : ([("coin", v)] : List (Str × V)).lookup ("coin" : Str) = some v := by simp [List.lookup]
theorem coF_s {v : V} : ([("coin", v)] : List (Str × V)).lookup ("shows" : Str) = none := by
  have e : (("shows" : Str) == ("coin" : Str)) = false := by decide +kernel
  simp [List.lookup, e]
section
variable {P : Program} {w : World} {K : PySem.W.Frag} {mg : Str → Option Value} {base : Heap}
def spOne : Sp := fun vs H Q _ => ∃ (z : Str) (i : Int) (c : Nat), vs = [.str z, .int i, .str (ch1 c)] ∧ MkOk z ∧ Q (.bl (oneB z i c)) H
theorem sc_is_the_one_case : FnScope ["marks", "coin", "sign"] ["marks", "coin", "sign"] (defScope (top 22)) := ⟨rfl, rfl, rfl, by decide +kernel, rfl, by decide +kernel, by decide +kernel⟩
theorem ok_one {f : Addr} {fd : FuncData} (F : Fun K "is_the_one_case" "is_the_one_case" (top 22) f fd) (B : Blt mg) (c_cases : Can P w K mg base CX0 2 "cases" ["marks"] spCases) (c_is_whole : Can P w K mg base CX0 1 "is_whole" ["value"] spWhole) : FnOk P w K mg base CX0 3 f fd ["marks", "coin", "sign"] spOne := by
  refine F.ok sc_is_the_one_case (fun vs H Q E h => ?_) (fun cdv A outer s H vs Q E hr h => ?_)
  · obtain ⟨z, i, c, rfl, _⟩ := h; rfl
  · obtain ⟨z, i, c, rfl, M, k⟩ := h
    refine ⟨_, (pss_cons (ps_if (PW.pt (pw_or (pt_cmpR op_ne (pe_can c_cases (hr.mono (by decide)) pass0 (pa_cons (pv 0) pa_nil)) pe_int (nomark _)) (pw_or1 (pt_not (pt_val (pe_can c_is_whole (hr.mono (by decide)) pass0 (pa_cons (pv 1) pa_nil))))))) (pss_one (ps_ret pe_bl)) pss_nil)
      (pss_one (ps_ret (pe_and (pe_cmpR op_le pe_int (pv 1) (nomark _)) (pe_and (pe_cmpR op_lt (pv 1) (pe_callB call_len_str (by rfl) B.len boot_lenB (pa_cons (pv 0) pa_nil)) (nomark _)) (pe_one (pe_cmpR op_eq (pe_ix ix_str (pv 0) (pv 1) (fun _ _ => rfl)) (pv 2) (nomark _)))))))), ?_⟩
    have hz : z.length ≤ sizeLine := Nat.le_trans M.len (by decide)
    refine ⟨_, rfl, z, rfl, M, rfl, _, rfl, ?_⟩
    by_cases h1 : csF z = 1
    · refine iteNS (by show V.int _ = V.int _; rw [h1]; rfl) ?_
      refine ⟨_, rfl, i, rfl, _, rfl, fls rfl ?_⟩
      refine ⟨_, rfl, _, _, rfl, rfl, _, rfl, ?_⟩
      by_cases h2 : 0 ≤ i
      · refine tru (decide_eq_true h2) ?_
        refine ⟨_, rfl, _, rfl, z, rfl, hz, _, _, rfl, rfl, _, rfl, ?_⟩
        by_cases h3 : i < z.length
        · refine tru (decide_eq_true h3) ?_
          have hl : i.toNat < z.cps.toList.length := by rw [← str_len]; omega
          have hat : atI z.cps.toList i = some z.cps.toList[i.toNat] := by
            have := atI_nat (xs := z.cps.toList) (j := i.toNat) (List.getElem?_eq_getElem hl)
            rw [Int.toNat_of_nonneg h2] at this
            exact this
          refine ⟨_, rfl, _, rfl, z, i, _, rfl, rfl, hz, hat, _, rfl, rfl, ?_⟩
          rw [dec_ch]
          have e : oneB z i c = decide (z.cps.toList[i.toNat] = c) := by
            unfold oneB
            rw [decide_eq_true h1, decide_eq_true h2, decide_eq_true h3, List.getElem?_eq_getElem hl]
            simp
          rw [← e]; exact k
        · refine fls (decide_eq_false h3) ?_
          have e : oneB z i c = false := by unfold oneB; rw [decide_eq_false h3]; simp
          rw [← e]; exact k
      · refine fls (decide_eq_false h2) ?_
        have e : oneB z i c = false := by unfold oneB; rw [decide_eq_false h2]; simp
        rw [← e]; exact k
    · refine tru ?_ (tru rfl ?_)
      · show (!decide (V.int _ = V.int _)) = true
        rw [decide_eq_false fun e => h1 (by have := V.int.inj e; omega)]; rfl
      · have e : oneB z i c = false := by unfold oneB; rw [decide_eq_false h1]; rfl
        show Q (.bl false) H
        rw [← e]; exact k
def spShC (C : Addr) (c : Nat) : Sp := fun vs H Q _ => ∃ (x dx : Addr) (i : Int) (z : Str), vs = [.ref x, .str z] ∧ H x = some (.ins C dx [("coin", .int i)]) ∧ MkOk z ∧ Q (.bl (oneB z i c)) H
theorem sc_shH : FnScope ["self", "marks"] ["self", "marks"] (defScope (inClass (top 24) 1)) := ⟨rfl, rfl, rfl, by decide +kernel, rfl, by decide +kernel, by decide +kernel⟩
theorem ok_shH {f : Addr} {fd : FuncData} {C : Addr} (F : Fun K "shows" "Heavy.shows" (inClass (top 24) 1) f fd) (c : Cls K C) (n : NoAttr K C "coin") (c_one : Can P w K mg base CX0 3 "is_the_one_case" ["marks", "coin", "sign"] spOne) : FnOk P w K mg base CX0 4 f fd ["self", "marks"] (spShC C 104) := by
  refine F.ok sc_shH (fun vs H Q E h => ?_) (fun cdv A outer s H vs Q E hr h => ?_)
  · obtain ⟨x, dx, i, z, rfl, _⟩ := h; rfl
  · obtain ⟨x, dx, i, z, rfl, hx, M, q⟩ := h
    refine ⟨_, pss_one (ps_ret (pe_can c_one (hr.mono (by decide)) pass0 (pa_cons (pv 1) (pa_cons (pe_fld (pv 0) rfl) (pa_cons pe_str pa_nil))))), ?_⟩
    exact ⟨_, rfl, _, rfl, x, C, dx, _, _, rfl, hx, c, n, coF_c, z, i, 104, by rw [s_h]; rfl, M, q⟩
theorem sc_shL : FnScope ["self", "marks"] ["self", "marks"] (defScope (inClass (top 25) 1)) := ⟨rfl, rfl, rfl, by decide +kernel, rfl, by decide +kernel, by decide +kernel⟩
theorem ok_shL {f : Addr} {fd : FuncData} {C : Addr} (F : Fun K "shows" "Light.shows" (inClass (top 25) 1) f fd) (c : Cls K C) (n : NoAttr K C "coin") (c_one : Can P w K mg base CX0 3 "is_the_one_case" ["marks", "coin", "sign"] spOne) : FnOk P w K mg base CX0 4 f fd ["self", "marks"] (spShC C 108) := by
  refine F.ok sc_shL (fun vs H Q E h => ?_) (fun cdv A outer s H vs Q E hr h => ?_)
  · obtain ⟨x, dx, i, z, rfl, _⟩ := h; rfl
  · obtain ⟨x, dx, i, z, rfl, hx, M, q⟩ := h
    refine ⟨_, pss_one (ps_ret (pe_can c_one (hr.mono (by decide)) pass0 (pa_cons (pv 1) (pa_cons (pe_fld (pv 0) rfl) (pa_cons pe_str pa_nil))))), ?_⟩
    exact ⟨_, rfl, _, rfl, x, C, dx, _, _, rfl, hx, c, n, coF_c, z, i, 108, by rw [s_l]; rfl, M, q⟩
def spShN : Sp := fun vs H Q _ => ∃ (x : V) (z : Str), vs = [x, .str z] ∧ MkOk z ∧ Q (.bl (decide (csF z = 1) && allG z)) H
theorem sc_shN : FnScope ["self", "marks"] ["self", "marks"] (defScope (inClass (top 26) 0)) := ⟨rfl, rfl, rfl, by decide +kernel, rfl, by decide +kernel, by decide +kernel⟩
theorem ok_shN {f : Addr} {fd : FuncData} (F : Fun K "shows" "Nothing.shows" (inClass (top 26) 0) f fd) (c_cases : Can P w K mg base CX0 2 "cases" ["marks"] spCases) (c_may_all_be_good : Can P w K mg base CX0 1 "may_all_be_good" ["marks"] spAllG) : FnOk P w K mg base CX0 3 f fd ["self", "marks"] spShN := by
  refine F.ok sc_shN (fun vs H Q E h => ?_) (fun cdv A outer s H vs Q E hr h => ?_)
  · obtain ⟨x, z, rfl, _⟩ := h; rfl
  · obtain ⟨x, z, rfl, M, q⟩ := h
    refine ⟨_, pss_one (ps_ret (pe_and (pe_cmpR op_eq (pe_can c_cases (hr.mono (by decide)) pass0 (pa_cons (pv 1) pa_nil)) pe_int (nomark _)) (pe_one (pe_can c_may_all_be_good (hr.mono (by decide)) pass0 (pa_cons (pv 1) pa_nil))))), ?_⟩
    refine ⟨_, rfl, z, rfl, M, rfl, _, rfl, ?_⟩
    by_cases h1 : csF z = 1
    · refine tru (decide_eq_true (by rw [h1]; rfl)) ⟨_, rfl, z, rfl, ?_⟩
      rw [decide_eq_true h1, Bool.true_and] at q; exact q
    · refine fls (decide_eq_false fun e => h1 (by have := V.int.inj e; omega)) ?_
      rw [decide_eq_false h1, Bool.false_and] at q; exact q
def spShO (C : Addr) : Sp := fun vs H Q _ => ∃ (x dx a b : Addr) (l r : List Int) (m : Int) (z : Str), vs = [.ref x, .str z] ∧ H x = some (.ins C dx (opF a b (.int m))) ∧ H a = some (.lst (l.map V.int)) ∧ H b = some (.lst (r.map V.int)) ∧ l.length ≤ 300 ∧ r.length ≤ 300 ∧ MkOk z ∧
  ∀ (t : Bool) (H' : Hp), (t = true ↔ OpenP z l r m) → Same H H' → Q (.bl t) H'
theorem sc_shO : FnScope ["self", "marks", "counts"] ["self", "marks"] (defScope (inClass (top 27) 1)) := ⟨rfl, rfl, rfl, by decide +kernel, rfl, by decide +kernel, by decide +kernel⟩
theorem ok_shO {f : Addr} {fd : FuncData} {C cw : Addr} (F : Fun K "shows" "Open.shows" (inClass (top 27) 1) f fd) (B : Blt mg) (c : Cls K C) (nL : NoAttr K C "left") (nR : NoAttr K C "right") (nM : NoAttr K C "many") (m_BadWeighing : mg "BadWeighing" = some (.ref cw)) (hex : PySem.W.exmOne K (.ref cw) (.ref cw) = some true)
    (c_cases : Can P w K mg base CX0 2 "cases" ["marks"] spCases) (c_is_whole : Can P w K mg base CX0 1 "is_whole" ["value"] spWhole) (c_fewest : Can P w K mg base CX0 3 "fewest" ["marks"] spFew) (c_judged : Can P w K mg base (CXE false P w) 4 "judged" ["marks", "left", "right"] (spJd cw)) (c_most_cases : Can P w K mg base CX0 1 "most_cases" ["weighings"] spMost) :
    FnOk P w K mg base CX0 5 f fd ["self", "marks"] (spShO C) := by
  refine F.ok sc_shO (fun vs H Q E h => ?_) (fun cdv A outer s H vs Q E hr h => ?_)
  · obtain ⟨x, dx, a, b, l, r, m, z, rfl, _⟩ := h; rfl
  · obtain ⟨x, dx, a, b, l, r, m, z, rfl, hx, ha, hb, hll, hlr, M, q⟩ := h
    refine ⟨_, pss_cons (ps_if (PW.pt (pw_or (pt_cmpR op_eq (pe_can c_cases (hr.mono (by decide)) pass0 (pa_cons (pv 1) pa_nil)) pe_int (nomark _)) (pw_or (pt_not (pt_val (pe_can c_is_whole (hr.mono (by decide)) pass0 (pa_cons (pe_fld (pv 0) rfl) pa_nil)))) (pw_or1 (pt_cmpR op_ne (pe_fld (pv 0) rfl) (pe_can c_fewest (hr.mono (by decide)) pass0 (pa_cons (pv 1) pa_nil)) (nomark _)))))) (pss_one (ps_ret pe_bl)) pss_nil)
      (pss_cons (ps_tryN (d := false) (B := cw) rfl rfl (by rfl) m_BadWeighing (fun F pn E' hp => pss_one (ps_set (i := 2) sc_shO.nd rfl (Or.inl rfl) (pe_can c_judged (hr.mono (by decide)) hp (pa_cons (pv 1) (pa_cons (pe_fldK (K := K) rfl (pv 0) rfl) (pa_cons (pe_fldK (K := K) rfl (pv 0) rfl) pa_nil)))))) (fun a oe px C hd => pss_one (ps_ret pe_bl)))
      (pss_one (ps_ret (pe_cmpR op_le (pe_callB (call_maxS rfl) (by rfl) B.max boot_maxB (pa_cons (pv 2) pa_nil)) (pe_can c_most_cases (hr.mono (by decide)) pass0 (pa_cons (pe_op op_sub (pe_fld (pv 0) rfl) pe_int) pa_nil)) (nomark _))))), ?_⟩
    refine ⟨_, rfl, z, rfl, M, rfl, _, rfl, ?_⟩
    by_cases h1 : csF z = 1
    · refine tru (decide_eq_true (by rw [h1]; rfl)) (tru rfl ?_)
      exact q false H ⟨fun e => (nomatch e), fun o => absurd h1 o.1⟩ (Same.refl H)
    refine fls (decide_eq_false fun e => h1 (by have := V.int.inj e; omega)) ?_
    refine ⟨_, rfl, x, C, dx, _, _, rfl, hx, c, nM, opF_m, m, rfl, _, rfl, fls rfl ?_⟩
    refine ⟨_, rfl, x, C, dx, _, _, rfl, hx, c, nM, opF_m, _, rfl, z, rfl, M, fun k Fw => ⟨rfl, _, rfl, ?_⟩⟩
    have kle : k ≤ 601 := Nat.le_trans Fw.le (cs_le M)
    by_cases h2 : m = k
    · subst h2
      refine iteNS rfl ?_
      refine ⟨_, rfl, _, rfl, x, C, dx, _, _, rfl, hx, c, nL, opF_l, _, rfl, x, C, dx, _, _, rfl, hx, c, nR, opF_r, z, a, b, l, r, rfl, M, ha, hb, hll, hlr, fun cno H' s' => ?_, fun cok H' p s' hp ep => ?_⟩
      · exact ⟨cw, rfl, hex, q false H' ⟨fun e => (nomatch e), fun o => by rw [o.2.2.1] at cno; cases cno⟩ s'⟩
      · refine ⟨_, rfl, p, [(jd z l r .L : Int), (jd z l r .R : Int), (jd z l r .E : Int)], rfl, .inr (SqT.of ep), by show 0 < 3; decide, fun mx hmx hall => ?_⟩
        refine ⟨_, rfl, x, C, dx, _, _, rfl, s' _ _ hx, c, nM, opF_m, _, _, rfl, rfl, (k : Int) - 1, rfl, by omega, by omega, _, _, rfl, rfl, ?_⟩
        refine q _ H' ⟨fun e => ⟨h1, ⟨k, rfl, Fw⟩, cok, fun o => ?_⟩, fun o => decide_eq_true ?_⟩ s'
        · have hle : mx ≤ ((3 ^ ((k : Int) - 1).toNat : Nat) : Int) := of_decide_eq_true e
          have ho : (jd z l r o : Int) ≤ mx := hall _ (by cases o <;> simp)
          exact_mod_cast Int.le_trans ho hle
        · have hJ := o.2.2.2
          rcases List.mem_cons.mp hmx with e | e
          · rw [e]; exact_mod_cast hJ .L
          · rcases List.mem_cons.mp e with e | e
            · rw [e]; exact_mod_cast hJ .R
            · rw [List.mem_singleton.mp e]; exact_mod_cast hJ .E
    · refine tru ?_ ?_
      · show (!decide (V.int _ = V.int _)) = true
        rw [decide_eq_false fun e => h2 (V.int.inj e)]; rfl
      · refine q false H ⟨fun e => (nomatch e), fun o => ?_⟩ (Same.refl H)
        obtain ⟨k', e, F'⟩ := o.2.1
        exact absurd (by rw [e, F'.uniq Fw]) h2
end
end Ks
end
section
namespace Ks
open PySem L2 Mir PyProof.Rows
theorem cwOk_iff {n : Int} {l r : List Int} : cwOk n l r = true ↔ Wg n l r := by
  unfold cwOk
  rw [Bool.and_eq_true, Bool.and_eq_true, Bool.and_eq_true, decide_eq_true_eq, decide_eq_true_eq, up_iff, up_iff]
  constructor
  · rintro ⟨⟨⟨⟨a1, a2⟩, b1, b2⟩, c⟩, d⟩
    exact ⟨a1, b1, fun k hk => ⟨by have := (a2 k hk).1; omega, (a2 k hk).2⟩, fun k hk => ⟨by have := (b2 k hk).1; omega, (b2 k hk).2⟩, c, d⟩
  · intro W
    exact ⟨⟨⟨⟨W.risL, fun k hk => ⟨by have := (W.inL k hk).1; omega, (W.inL k hk).2⟩⟩, W.risR, fun k hk => ⟨by have := (W.inR k hk).1; omega, (W.inR k hk).2⟩⟩, W.len⟩, W.dis⟩
theorem wgB_cwOk (n : Int) (l r : List Int) : wgB n l r = cwOk n l r := by
  rw [Bool.eq_iff_iff, wgB_iff, cwOk_iff]
theorem few_iff {n k : Nat} (hk : 1 ≤ k) : IsFew n k ↔ n ≤ 3 ^ k ∧ 3 ^ (k - 1) < n := by
  constructor
  · intro h; exact ⟨h.1, h.2 (k - 1) (by omega)⟩
  · rintro ⟨h1, h2⟩
    refine ⟨h1, fun j hj => Nat.lt_of_le_of_lt (Nat.pow_le_pow_right (by decide) (by omega)) h2⟩
section
variable {P : Program} {w : World} {K : PySem.W.Frag} {mg : Str → Option Value} {base : Heap}
def spLCs : Sp := fun vs H Q _ => ∃ z, vs = [.str z] ∧ MkOk z ∧ Q (.int (csF z)) H
theorem sc__law_cases : FnScope ["_law_marks_here", "_law_many"] ["_law_marks_here"] (defScope (top 38)) := ⟨rfl, rfl, rfl, by decide +kernel, rfl, by decide +kernel, by decide +kernel⟩
theorem ok_lcs {f : Addr} {fd : FuncData} (F : Fun K "_law_cases" "_law_cases" (top 38) f fd) : FnOk P w K mg base CX0 1 f fd ["_law_marks_here"] spLCs := by
  refine F.ok sc__law_cases (fun vs H Q E h => ?_) (fun cdv A outer s H vs Q E hr h => ?_)
  · obtain ⟨z, rfl, _⟩ := h; rfl
  · obtain ⟨z, rfl, M, k⟩ := h
    refine ⟨_, (pss_cons (ps_set (i := 1) sc__law_cases.nd rfl (Or.inl rfl) (pe_op op_add (pe_op op_add (pe_op op_mul pe_int (pe_bm PySem.F.plainAttrs_str PySem.F.slot_str_count PySem.F.type_str_count mt_count (pv 0) (pa_cons pe_str pa_nil))) (pe_bm PySem.F.plainAttrs_str PySem.F.slot_str_count PySem.F.type_str_count mt_count (pv 0) (pa_cons pe_str pa_nil))) (pe_bm PySem.F.plainAttrs_str PySem.F.slot_str_count PySem.F.type_str_count mt_count (pv 0) (pa_cons pe_str pa_nil))))
      (pss_one (ps_ret (pe_ifExp (PW.pt (pw_or (pt_cmpR op_in_str pe_str (pv 0) rfl) (pw_or1 (pt_cmpR op_in_str pe_str (pv 0) rfl)))) (pv 1) (pe_op op_add (pv 1) pe_int))))), ?_⟩
    refine ⟨_, rfl, rfl, z, 101, rfl, by rw [s_e], _, _, rfl, rfl, .inl ⟨by decide, by decide⟩, _, rfl, rfl, z, 104, rfl, by rw [s_h], _, _, rfl, rfl, _, rfl, rfl, z, 108, rfl, by rw [s_l], _, _, rfl, rfl, ?_⟩
    have hx : 0 < cntS 104 z + cntS 108 z → cntS 101 z = 0 := fun h => cnt0.mpr fun he => by
      obtain ⟨q1, q2⟩ := M.ex he
      have := cnt0.mpr q1; have := cnt0.mpr q2; omega
    refine ⟨_, rfl, _, _, rfl, rfl, _, rfl, ?_⟩
    rw [s_h, PySem.StrLaws.found_one]
    have big : 0 < cntS 104 z + cntS 108 z → Q (.int (2 * (cntS 101 z : Int) + cntS 104 z + cntS 108 z)) H := fun h => by
      have e : (2 * (cntS 101 z : Int) + cntS 104 z + cntS 108 z) = ((csF z : Nat) : Int) := by unfold csF; rw [if_pos h, hx h]; omega
      rw [e]; exact k
    by_cases h1 : 104 ∈ z.cps.toList
    · refine tru (by simpa using h1) (tru rfl ⟨_, rfl, ?_⟩)
      exact big (by have := cntp.mpr h1; omega)
    · refine fls (by simpa using h1) ?_
      refine ⟨_, rfl, _, _, rfl, rfl, _, rfl, ?_⟩
      rw [s_l, PySem.StrLaws.found_one]
      by_cases h2 : 108 ∈ z.cps.toList
      · refine tru (by simpa using h2) ⟨_, rfl, ?_⟩
        exact big (by have := cntp.mpr h2; omega)
      · refine fls (by simpa using h2) ⟨_, rfl, _, _, rfl, rfl, ?_⟩
        have e1 := cnt0.mpr h1
        have e2 := cnt0.mpr h2
        have e : (2 * (cntS 101 z : Int) + cntS 104 z + cntS 108 z + 1) = ((csF z : Nat) : Int) := by unfold csF; rw [if_neg (by omega), e1, e2]; omega
        show Q (.int (2 * (cntS 101 z : Int) + cntS 104 z + cntS 108 z + 1)) H
        rw [e]; exact k
theorem sc__law_power : FnScope ["_law_many", "_law_found", "_law_turn"] ["_law_many"] (defScope (top 42)) := ⟨rfl, rfl, rfl, by decide +kernel, rfl, by decide +kernel, by decide +kernel⟩
theorem ok_pow {f : Addr} {fd : FuncData} (F : Fun K "_law_power" "_law_power" (top 42) f fd) (B : Blt mg) : FnOk P w K mg base CX0 1 f fd ["_law_many"] spMost := by
  refine F.ok sc__law_power (fun vs H Q E h => ?_) (fun cdv A outer s H vs Q E hr h => ?_)
  · obtain ⟨k, rfl, _⟩ := h; rfl
  · obtain ⟨k, rfl, h1, h2, q⟩ := h
    refine ⟨_, (pss_cons (ps_set (i := 1) sc__law_power.nd rfl (Or.inl rfl) pe_int)
      (pss_cons (ps_for PassesOwn.never rfl (pi_range1 (by rfl) B.range (pa_cons (pv 0) pa_nil)) (pg_name (i := 2) sc__law_power.nd rfl (Or.inl rfl)) (pss_one (ps_set (i := 1) sc__law_power.nd rfl (Or.inl rfl) (pe_op op_mul pe_int (pv 1)))))
      (pss_one (ps_ret (pv 1))))), ?_⟩
    refine ⟨_, rfl, k, rfl, by omega, by omega, ?_⟩
    refine for_range (lo := 0) (n := k.toNat) (fun i σ H2 => H2 = H ∧ ∃ v, σ = [some (.int k), some (.int ((3 ^ i : Nat) : Int)), v]) ?_ ?_ ?_
    · exact ⟨rfl, none, rfl⟩
    · rintro i σ H2 hi ⟨rfl, v, rfl⟩
      refine ⟨_, rfl, _, _, rfl, rfl, .inl ⟨by decide, by decide⟩, ?_⟩
      refine ⟨rfl, some (.int (0 + (i : Int))), ?_⟩
      have e : 3 * ((3 ^ i : Nat) : Int) = ((3 ^ (i + 1) : Nat) : Int) := by rw [Nat.pow_succ, Nat.mul_comm]; push_cast; rfl
      show [some (V.int k), some (V.int (3 * ((3 ^ i : Nat) : Int))), some (.int (0 + (i : Int)))] = _
      rw [e]
    · rintro σ H2 ⟨rfl, v, rfl⟩
      exact ⟨_, rfl, q⟩
def spLOp : Sp := fun vs H Q _ => ∃ (z : Str) (a b : Addr) (l r : List Int) (m : Int), vs = [.str z, .ref a, .ref b, .int m] ∧ MkOk z ∧ H a = some (.lst (l.map V.int)) ∧ H b = some (.lst (r.map V.int)) ∧ l.length < 128 ∧ r.length < 128 ∧ -900 ≤ m ∧ m ≤ 900 ∧
  ∀ (t : Bool) (H' : Hp), (t = true ↔ OpenP z l r m) → Same H H' → Q (.bl t) H'
theorem sc__law_open : FnScope ["_law_marks_here", "_law_left_here", "_law_right_here", "_law_many", "_law_whole_here"] ["_law_marks_here", "_law_left_here", "_law_right_here", "_law_many"] (defScope (top 44)) := ⟨rfl, rfl, rfl, by decide +kernel, rfl, by decide +kernel, by decide +kernel⟩
theorem ok_lop {f : Addr} {fd : FuncData} (F : Fun K "_law_open" "_law_open" (top 44) f fd) (B : Blt mg) (c__law_cases : Can P w K mg base CX0 1 "_law_cases" ["_law_marks_here"] spLCs) (c__law_weighing : Can P w K mg base CX0 1 "_law_weighing" ["_law_coins", "_law_left_here", "_law_right_here"] spWg)
    (c__law_power : Can P w K mg base CX0 1 "_law_power" ["_law_many"] spMost) (c__law_left : Can P w K mg base CX0 2 "_law_left" ["_law_marks_here", "_law_left_here", "_law_right_here"] spLL) : FnOk P w K mg base CX0 3 f fd ["_law_marks_here", "_law_left_here", "_law_right_here", "_law_many"] spLOp := by
  refine F.ok sc__law_open (fun vs H Q E h => ?_) (fun cdv A outer s H vs Q E hr h => ?_)
  · obtain ⟨z, a, b, l, r, m, rfl, _⟩ := h; rfl
  · obtain ⟨z, a, b, l, r, m, rfl, M, ha, hb, hll, hlr, m1, m2, q⟩ := h
    refine ⟨_, (pss_cons (ps_set (i := 4) sc__law_open.nd rfl (Or.inl rfl) (pe_can c__law_cases (hr.mono (by decide)) pass0 (pa_cons (pv 0) pa_nil)))
      (pss_cons (ps_if (PW.pt (pw_or (pt_cmpR op_lt (pv 4) pe_int (nomark _)) (pw_or (pt_cmpR op_lt (pv 3) pe_int (nomark _)) (pw_or1 (pt_not (pt_val (pe_can c__law_weighing (hr.mono (by decide)) pass0 (pa_cons (pe_callB call_len_str (by rfl) B.len boot_lenB (pa_cons (pv 0) pa_nil)) (pa_cons (pv 1) (pa_cons (pv 2) pa_nil)))))))))) (pss_one (ps_ret pe_bl)) pss_nil)
      (pss_cons (ps_if (PW.pt (pw_or (pt_cmpR op_gt (pv 3) pe_int (nomark _)) (pw_or (pt_cmpR op_lt (pe_can c__law_power (hr.mono (by decide)) pass0 (pa_cons (pv 3) pa_nil)) (pv 4) (nomark _)) (pw_or1 (pt_cmpR op_ge (pe_can c__law_power (hr.mono (by decide)) pass0 (pa_cons (pe_op op_sub (pv 3) pe_int) pa_nil)) (pv 4) (nomark _)))))) (pss_one (ps_ret pe_bl)) pss_nil)
      (pss_one (ps_ret (pe_cmpR op_le (pe_callB (call_maxS rfl) (by rfl) B.max boot_maxB (pa_cons (pe_can c__law_left (hr.mono (by decide)) pass0 (pa_cons (pv 0) (pa_cons (pv 1) (pa_cons (pv 2) pa_nil)))) pa_nil)) (pe_can c__law_power (hr.mono (by decide)) pass0 (pa_cons (pe_op op_sub (pv 3) pe_int) pa_nil)) (nomark _))))))), ?_⟩
    have hz : z.length ≤ sizeLine := Nat.le_trans M.len (by decide)
    have cpos := cs_pos z
    have cle := cs_le M
    have no : ∀ H', Same H H' → ¬ OpenP z l r m → Q (.bl false) H' := fun H' s' n => q false H' ⟨fun e => (nomatch e), fun o => absurd o n⟩ s'
    refine ⟨_, rfl, z, rfl, M, ?_⟩
    refine ⟨_, rfl, _, _, rfl, rfl, _, rfl, ?_⟩
    by_cases h1 : (csF z : Int) < 2
    · refine tru (decide_eq_true h1) (tru rfl (no H (Same.refl H) fun o => o.1 (by omega)))
    refine fls (decide_eq_false h1) ?_
    refine ⟨_, rfl, _, _, rfl, rfl, _, rfl, ?_⟩
    have kpos : ∀ k : Nat, IsFew (csF z) k → 1 ≤ k := fun k Fw => by
      cases k with
      | zero => have := Fw.1; simp at this; omega
      | succ k => omega
    by_cases h2 : m < 1
    · refine tru (decide_eq_true h2) (tru rfl (no H (Same.refl H) fun o => ?_))
      obtain ⟨k, e, Fw⟩ := o.2.1
      have := kpos k Fw; omega
    refine fls (decide_eq_false h2) ?_
    refine ⟨_, rfl, z, rfl, hz, _, rfl, _, rfl, z.length, a, b, l, r, rfl, ha, hb, hll, hlr, fun H1 s1 => ?_⟩
    rw [wgB_cwOk]
    refine ⟨_, rfl, ?_⟩
    cases hw : cwOk z.length l r with
    | false => exact tru rfl (no H1 s1 fun o => by rw [o.2.2.1] at hw; cases hw)
    | true =>
      refine fls rfl ?_
      have W := cwOk_iff.mp hw
      obtain ⟨k, rfl⟩ : ∃ k : Nat, m = k := ⟨m.toNat, by omega⟩
      have kp : 1 ≤ k := by omega
      refine ⟨_, rfl, _, _, rfl, rfl, _, rfl, ?_⟩
      by_cases h3 : (k : Int) > 500
      · refine tru (decide_eq_true h3) (tru rfl (no H1 s1 fun o => ?_))
        obtain ⟨k', e, Fw⟩ := o.2.1
        have q6 := Fw.2 6 (by omega); have e6 : (3 : Nat) ^ 6 = 729 := by decide
        omega
      refine fls (decide_eq_false h3) ?_
      refine ⟨_, rfl, (k : Int), rfl, by omega, by omega, _, rfl, _, _, rfl, rfl, _, rfl, ?_⟩
      rw [Int.toNat_natCast]
      by_cases h4 : ((3 ^ k : Nat) : Int) < csF z
      · refine tru (decide_eq_true h4) (tru rfl (no H1 s1 fun o => ?_))
        obtain ⟨k', e, Fw⟩ := o.2.1
        have e' : k' = k := by omega
        subst e'
        have := Fw.1; omega
      refine fls (decide_eq_false h4) ?_
      refine ⟨_, rfl, _, _, rfl, rfl, (k : Int) - 1, rfl, by omega, by omega, _, rfl, _, _, rfl, rfl, _, rfl, ?_⟩
      have ek : ((k : Int) - 1).toNat = k - 1 := by omega
      rw [ek]
      by_cases h5 : ((3 ^ (k - 1) : Nat) : Int) ≥ csF z
      · refine tru (decide_eq_true h5) (no H1 s1 fun o => ?_)
        obtain ⟨k', e, Fw⟩ := o.2.1
        have e' : k' = k := by omega
        subst e'
        have := Fw.2 (k' - 1) (by omega); omega
      refine fls (decide_eq_false h5) ?_
      have Fw : IsFew (csF z) k := (few_iff kp).mpr ⟨by omega, by omega⟩
      refine ⟨_, rfl, _, rfl, _, rfl, z, a, b, l, r, rfl, M.sg, Nat.le_trans M.len (by decide), s1 _ _ ha, s1 _ _ hb, W.dis, fun p H2 s2 hp ep => ?_⟩
      refine ⟨p, [(jd z l r .L : Int), (jd z l r .R : Int), (jd z l r .E : Int)], rfl, .inl (SqL.of ep), by show 0 < 3; decide, fun mx hmx hall => ?_⟩
      refine ⟨_, rfl, _, _, rfl, rfl, (k : Int) - 1, rfl, by omega, by omega, _, _, rfl, rfl, ?_⟩
      refine q _ H2 ⟨fun e => ⟨by omega, ⟨k, rfl, Fw⟩, hw, fun o => ?_⟩, fun o => decide_eq_true ?_⟩ (s1.trans s2)
      · have hle : mx ≤ ((3 ^ ((k : Int) - 1).toNat : Nat) : Int) := of_decide_eq_true e
        have ho : (jd z l r o : Int) ≤ mx := hall _ (by cases o <;> simp)
        exact_mod_cast Int.le_trans ho hle
      · have hJ := o.2.2.2
        rcases List.mem_cons.mp hmx with e | e
        · rw [e]; exact_mod_cast hJ .L
        · rcases List.mem_cons.mp e with e | e
          · rw [e]; exact_mod_cast hJ .R
          · rw [List.mem_singleton.mp e]; exact_mod_cast hJ .E
end
end Ks
end
section
namespace Ks
open PySem L2 Mir PyProof.Rows
inductive AD where
  | op (l r : List Int) (m : Int)
  | hv (i : Int)
  | lt (i : Int)
  | no
def AD.At (e : AA) (H : Hp) (x : Addr) : AD → Prop
  | .op l r m => ∃ dx a b, H x = some (.ins e.opn dx (opF a b (.int m))) ∧ H a = some (.lst (l.map V.int)) ∧ H b = some (.lst (r.map V.int)) ∧ l.length < 128 ∧ r.length < 128 ∧ -900 ≤ m ∧ m ≤ 900
  | .hv i => ∃ dx, H x = some (.ins e.heavy dx [("coin", .int i)])
  | .lt i => ∃ dx, H x = some (.ins e.light dx [("coin", .int i)])
  | .no => ∃ dx, H x = some (.ins e.nothing dx [])
def AD.sh (z : Str) : AD → Prop
  | .op l r m => OpenP z l r m
  | .hv i => oneB z i 104 = true
  | .lt i => oneB z i 108 = true
  | .no => csF z = 1 ∧ allG z = true
def AD.isH : AD → Bool | .hv _ => true | _ => false
def AD.isL : AD → Bool | .lt _ => true | _ => false
def AD.isN : AD → Bool | .no => true | _ => false
def AD.isO : AD → Bool | .op _ _ _ => true | _ => false
theorem AD.same {e : AA} {H H' : Hp} {x : Addr} {d : AD} (h : d.At e H x) (s : Same H H') : d.At e H' x := by
  cases d with
  | op l r m => obtain ⟨dx, a, b, h1, h2, h3, h4⟩ := h; exact ⟨dx, a, b, s _ _ h1, s _ _ h2, s _ _ h3, h4⟩
  | hv i => obtain ⟨dx, h⟩ := h; exact ⟨dx, s _ _ h⟩
  | lt i => obtain ⟨dx, h⟩ := h; exact ⟨dx, s _ _ h⟩
  | no => obtain ⟨dx, h⟩ := h; exact ⟨dx, s _ _ h⟩
structure AnsK (K : PySem.W.Frag) (e : AA) : Prop where
  h : PySem.W.kitOne K (.ref e.heavy) (.ref e.ans) = some true
  l : PySem.W.kitOne K (.ref e.light) (.ref e.ans) = some true
  n : PySem.W.kitOne K (.ref e.nothing) (.ref e.ans) = some true
  o : PySem.W.kitOne K (.ref e.opn) (.ref e.ans) = some true
structure TyA (K : PySem.W.Frag) (e : AA) (H : Hp) (x : Addr) (d : AD) (C : Addr) : Prop where
  ty : TyOf K H (.ref x) (.ref C)
  h : PySem.W.kitOne K (.ref C) (.ref e.heavy) = some d.isH
  l : PySem.W.kitOne K (.ref C) (.ref e.light) = some d.isL
  n : PySem.W.kitOne K (.ref C) (.ref e.nothing) = some d.isN
  o : PySem.W.kitOne K (.ref C) (.ref e.opn) = some d.isO
  a : PySem.W.kitOne K (.ref C) (.ref e.ans) = some true
theorem AD.ty {K : PySem.W.Frag} {mg : Str → Option Value} {e : AA} {H : Hp} {x : Addr} {d : AD} (An : Anss K mg e) (Ak : AnsK K e) (h : d.At e H x) : ∃ C, TyA K e H x d C := by
  cases d with
  | op l r m => obtain ⟨dx, a, b, h1, _⟩ := h; exact ⟨_, An.ty An.cO h1, An.kd, An.ke, An.kf, An.kg, Ak.o⟩
  | hv i => obtain ⟨dx, h⟩ := h; exact ⟨_, An.ty An.cH h, An.k1, An.k2, An.k3, An.k4, Ak.h⟩
  | lt i => obtain ⟨dx, h⟩ := h; exact ⟨_, An.ty An.cL h, An.k5, An.k6, An.k7, An.k8, Ak.l⟩
  | no => obtain ⟨dx, h⟩ := h; exact ⟨_, An.ty An.cN h, An.k9, An.ka, An.kb, An.kc, Ak.n⟩
section
variable {P : Program} {w : World} {K : PySem.W.Frag} {mg : Str → Option Value} {base : Heap}
theorem sc__law_whole : FnScope ["_law_number"] ["_law_number"] (defScope (top 43)) := ⟨rfl, rfl, rfl, by decide +kernel, rfl, by decide +kernel, by decide +kernel⟩
theorem ok_lwhole {f : Addr} {fd : FuncData} (F : Fun K "_law_whole" "_law_whole" (top 43) f fd) (B : Blt mg) (T : Kit K) : FnOk P w K mg base CX0 1 f fd ["_law_number"] spWhole := by
  refine F.ok sc__law_whole (fun vs H Q E h => ?_) (fun cdv A outer s H vs Q E hr h => ?_)
  · obtain ⟨i, rfl, _⟩ := h; rfl
  · obtain ⟨i, rfl, k⟩ := h
    refine ⟨_, (pss_one (ps_ret (pe_and (pe_callB call_isi (by rfl) B.isi boot_isi (pa_cons (pv 0) (pa_cons (pe_bltn (v := .ty "int") (by rfl) B.int boot_intT rfl) pa_nil))) (pe_one (pe_not (pe_callB call_isi (by rfl) B.isi boot_isi (pa_cons (pv 0) (pa_cons (pe_bltn (v := .ty "bool") (by rfl) B.bool boot_boolT rfl) pa_nil)))))))), ?_⟩
    refine ⟨_, rfl, _, _, _, _, rfl, .int i, T.ii, _, rfl, iteT ?_⟩
    exact ⟨_, rfl, _, _, _, _, rfl, .int i, T.ib, _, rfl, k⟩
def spDue (e : AA) : Sp := fun vs H Q _ => ∃ (z : Str) (x : Addr) (d : AD), vs = [.str z, .ref x] ∧ MkOk z ∧ d.At e H x ∧ ∀ (t : Bool) (H' : Hp), (t = true ↔ d.sh z) → Same H H' → Q (.bl t) H'
theorem sc__law_due : FnScope ["_law_marks_here", "_law_found", "_law_sign"] ["_law_marks_here", "_law_found"] (defScope (top 45)) := ⟨rfl, rfl, rfl, by decide +kernel, rfl, by decide +kernel, by decide +kernel⟩
theorem ok_due {f : Addr} {fd : FuncData} {e : AA} (F : Fun K "_law_due" "_law_due" (top 45) f fd) (B : Blt mg) (An : Anss K mg e) (Ak : AnsK K e) (c__law_cases : Can P w K mg base CX0 1 "_law_cases" ["_law_marks_here"] spLCs)
    (c__law_open : Can P w K mg base CX0 3 "_law_open" ["_law_marks_here", "_law_left_here", "_law_right_here", "_law_many"] spLOp) : FnOk P w K mg base CX0 4 f fd ["_law_marks_here", "_law_found"] (spDue e) := by
  refine F.ok sc__law_due (fun vs H Q E h => ?_) (fun cdv A outer s H vs Q E hr h => ?_)
  · obtain ⟨z, x, d, rfl, _⟩ := h; rfl
  · obtain ⟨z, x, d, rfl, M, hd, q⟩ := h
    have hz : z.length ≤ sizeLine := Nat.le_trans M.len (by decide)
    obtain ⟨C, ty, tH, tL, tN, tO, tA⟩ := AD.ty An Ak hd
    refine ⟨_, (pss_cons (ps_if (pt_val (pe_callB (call_isiC (K := K) rfl) (by rfl) B.isi boot_isi (pa_cons (pv 1) (pa_cons (pe_glob (v := .ref e.opn) (by rfl) An.m_Open rfl) pa_nil)))) (pss_one (ps_ret (pe_can c__law_open (hr.mono (by decide)) pass0 (pa_cons (pv 0) (pa_cons (pe_fld (pv 1) rfl) (pa_cons (pe_fld (pv 1) rfl) (pa_cons (pe_fld (pv 1) rfl) pa_nil))))))) pss_nil)
      (pss_cons (ps_if (pt_cmpR op_ne (pe_can c__law_cases (hr.mono (by decide)) pass0 (pa_cons (pv 0) pa_nil)) pe_int (nomark _)) (pss_one (ps_ret pe_bl)) pss_nil)
      (pss_cons (ps_if (pt_val (pe_callB (call_isiC (K := K) rfl) (by rfl) B.isi boot_isi (pa_cons (pv 1) (pa_cons (pe_glob (v := .ref e.nothing) (by rfl) An.m_Nothing rfl) pa_nil)))) (pss_one (ps_ret (pe_and (pe_cmpR op_notin_str pe_str (pv 0) rfl) (pe_one (pe_cmpR op_notin_str pe_str (pv 0) rfl))))) pss_nil)
      (pss_cons (ps_set (i := 2) sc__law_due.nd rfl (Or.inl rfl) (pe_ifExp (pt_val (pe_callB (call_isiC (K := K) rfl) (by rfl) B.isi boot_isi (pa_cons (pv 1) (pa_cons (pe_glob (v := .ref e.heavy) (by rfl) An.m_Heavy rfl) pa_nil)))) pe_str pe_str))
      (pss_one (ps_ret (pe_and (pe_chain op_le op_lt pe_int (pe_fld (pv 1) rfl) (pe_callB call_len_str (by rfl) B.len boot_lenB (pa_cons (pv 0) pa_nil))) (pe_one (pe_cmpR op_eq (pe_ix ix_str (pv 0) (pe_fld (pv 1) rfl) (fun _ _ => rfl)) (pv 2) (nomark _)))))))))), ?_⟩
    refine ⟨_, rfl, _, _, _, _, _, rfl, ref_only, ty, tO, _, rfl, ?_⟩
    cases d with
    | op l r m =>
      obtain ⟨dx, a, b, hx, ha, hb, hll, hlr, m1, m2⟩ := hd
      refine iteT ?_
      exact ⟨_, rfl, _, rfl, x, _, dx, _, _, rfl, hx, An.cO.cl, An.nOl, opF_l, _, rfl, x, _, dx, _, _, rfl, hx, An.cO.cl, An.nOr, opF_r, _, rfl, x, _, dx, _, _, rfl, hx, An.cO.cl, An.nOm, opF_m, z, a, b, l, r, m, rfl, M, ha, hb, hll, hlr, m1, m2, q⟩
    | no =>
      refine iteF ?_
      refine ⟨_, rfl, z, rfl, M, rfl, _, rfl, ?_⟩
      by_cases h1 : csF z = 1
      · refine iteNS (by show V.int _ = V.int _; rw [h1]; rfl) ?_
        refine ⟨_, rfl, _, _, _, _, _, rfl, ref_only, ty, tN, _, rfl, iteT ?_⟩
        refine ⟨_, rfl, _, _, rfl, rfl, _, rfl, ?_⟩
        rw [s_h, occ1]
        by_cases h2 : 104 ∈ z.cps.toList
        · refine fls (by simp [h2]) (q false H ⟨fun e => (nomatch e), fun s => ?_⟩ (Same.refl H))
          have := s.2; unfold allG at this; simp [h2] at this
        · refine tru (by simp [h2]) ⟨_, rfl, _, _, rfl, rfl, ?_⟩
          rw [s_l, occ1]
          refine q _ H ⟨fun s => ⟨h1, ?_⟩, fun s => ?_⟩ (Same.refl H)
          · unfold allG; simp [h2]; simpa using s
          · have := s.2; unfold allG at this; simp [h2] at this; simpa using this
      · refine tru ?_ (q false H ⟨fun e => (nomatch e), fun s => absurd s.1 h1⟩ (Same.refl H))
        show (!decide (V.int _ = V.int _)) = true
        rw [decide_eq_false fun e => h1 (by have := V.int.inj e; omega)]; rfl
    | hv i =>
      obtain ⟨dx, hx⟩ := hd
      refine iteF ?_
      refine ⟨_, rfl, z, rfl, M, rfl, _, rfl, ?_⟩
      by_cases h1 : csF z = 1
      · refine iteNS (by show V.int _ = V.int _; rw [h1]; rfl) ?_
        refine ⟨_, rfl, _, _, _, _, _, rfl, ref_only, ty, tN, _, rfl, iteF ?_⟩
        refine ⟨_, rfl, _, _, _, _, _, rfl, ref_only, ty, tH, _, rfl, iteT ?_⟩
        refine ⟨_, rfl, x, _, dx, _, _, rfl, hx, An.cH.cl, An.nHc, coF_c, _, _, rfl, rfl, _, rfl, ?_⟩
        by_cases g0 : 0 ≤ i
        · refine tru (decide_eq_true g0) ⟨_, rfl, z, rfl, hz, _, _, rfl, rfl, _, rfl, ?_⟩
          by_cases g1 : i < z.length
          · have hl : i.toNat < z.cps.toList.length := by rw [← str_len]; omega
            have hat : atI z.cps.toList i = some z.cps.toList[i.toNat] := by
              have := atI_nat (xs := z.cps.toList) (j := i.toNat) (List.getElem?_eq_getElem hl)
              rw [Int.toNat_of_nonneg g0] at this
              exact this
            refine tru (decide_eq_true g1) ⟨_, rfl, _, rfl, x, _, dx, _, _, rfl, hx, An.cH.cl, An.nHc, coF_c, z, i, _, rfl, rfl, hz, hat, _, rfl, rfl, ?_⟩
            rw [s_h, dec_ch]
            refine q _ H ?_ (Same.refl H)
            show _ ↔ oneB z i 104 = true
            unfold oneB
            rw [decide_eq_true h1, decide_eq_true g0, decide_eq_true g1, List.getElem?_eq_getElem hl]
            simp
          · refine fls (decide_eq_false g1) (q false H ⟨fun e => (nomatch e), fun s => ?_⟩ (Same.refl H))
            have s' : oneB z i 104 = true := s
            unfold oneB at s'; rw [decide_eq_false g1] at s'; simp at s'
        · refine fls (decide_eq_false g0) ⟨_, rfl, fls rfl (q false H ⟨fun e => (nomatch e), fun s => ?_⟩ (Same.refl H))⟩
          have s' : oneB z i 104 = true := s
          unfold oneB at s'; rw [decide_eq_false g0] at s'; simp at s'
      · refine tru ?_ (q false H ⟨fun e => (nomatch e), fun s => ?_⟩ (Same.refl H))
        · show (!decide (V.int _ = V.int _)) = true
          rw [decide_eq_false fun e => h1 (by have := V.int.inj e; omega)]; rfl
        · have s' : oneB z i 104 = true := s
          unfold oneB at s'; rw [decide_eq_false h1] at s'; simp at s'
    | lt i =>
      obtain ⟨dx, hx⟩ := hd
      refine iteF ?_
      refine ⟨_, rfl, z, rfl, M, rfl, _, rfl, ?_⟩
      by_cases h1 : csF z = 1
      · refine iteNS (by show V.int _ = V.int _; rw [h1]; rfl) ?_
        refine ⟨_, rfl, _, _, _, _, _, rfl, ref_only, ty, tN, _, rfl, iteF ?_⟩
        refine ⟨_, rfl, _, _, _, _, _, rfl, ref_only, ty, tH, _, rfl, iteF ?_⟩
        refine ⟨_, rfl, x, _, dx, _, _, rfl, hx, An.cL.cl, An.nLc, coF_c, _, _, rfl, rfl, _, rfl, ?_⟩
        by_cases g0 : 0 ≤ i
        · refine tru (decide_eq_true g0) ⟨_, rfl, z, rfl, hz, _, _, rfl, rfl, _, rfl, ?_⟩
          by_cases g1 : i < z.length
          · have hl : i.toNat < z.cps.toList.length := by rw [← str_len]; omega
            have hat : atI z.cps.toList i = some z.cps.toList[i.toNat] := by
              have := atI_nat (xs := z.cps.toList) (j := i.toNat) (List.getElem?_eq_getElem hl)
              rw [Int.toNat_of_nonneg g0] at this
              exact this
            refine tru (decide_eq_true g1) ⟨_, rfl, _, rfl, x, _, dx, _, _, rfl, hx, An.cL.cl, An.nLc, coF_c, z, i, _, rfl, rfl, hz, hat, _, rfl, rfl, ?_⟩
            rw [s_l, dec_ch]
            refine q _ H ?_ (Same.refl H)
            show _ ↔ oneB z i 108 = true
            unfold oneB
            rw [decide_eq_true h1, decide_eq_true g0, decide_eq_true g1, List.getElem?_eq_getElem hl]
            simp
          · refine fls (decide_eq_false g1) (q false H ⟨fun e => (nomatch e), fun s => ?_⟩ (Same.refl H))
            have s' : oneB z i 108 = true := s
            unfold oneB at s'; rw [decide_eq_false g1] at s'; simp at s'
        · refine fls (decide_eq_false g0) ⟨_, rfl, fls rfl (q false H ⟨fun e => (nomatch e), fun s => ?_⟩ (Same.refl H))⟩
          have s' : oneB z i 108 = true := s
          unfold oneB at s'; rw [decide_eq_false g0] at s'; simp at s'
      · refine tru ?_ (q false H ⟨fun e => (nomatch e), fun s => ?_⟩ (Same.refl H))
        · show (!decide (V.int _ = V.int _)) = true
          rw [decide_eq_false fun e => h1 (by have := V.int.inj e; omega)]; rfl
        · have s' : oneB z i 108 = true := s
          unfold oneB at s'; rw [decide_eq_false h1] at s'; simp at s'
end
end Ks
end
section
namespace Ks
open PySem L2 Mir PyProof.Rows
section
variable {P : Program} {w : World} {K : PySem.W.Frag} {mg : Str → Option Value} {base : Heap}
abbrev tShow (e : AA) (i : Nat) (t : TA) : TE := tEi (tMeth e.opn "shows" (spShO e.opn) [] E0 (tVar i) t) (tEi (tMeth e.heavy "shows" (spShC e.heavy 104) [] E0 (tVar i) t) (tEi (tMeth e.light "shows" (spShC e.light 108) [] E0 (tVar i) t) (tMeth e.nothing "shows" spShN [] E0 (tVar i) t)))
theorem show_rd {e : AA} {i : Nat} {tz : TE} {σ : L2.St} {H : Hp} {R : VK} {x : Addr} {d : AD} {z : Str} (hd : d.At e H x) (M : MkOk z) (hx : σ[i]? = some (some (.ref x))) (hz : ∀ (R' : VK), R' (.str z) H → tz σ H R') (h : ∀ (t : Bool) (H' : Hp), (t = true ↔ d.sh z) → Same H H' → R (.bl t) H') :
    tShow e i (tCons tz tNil) σ H R := by
  cases d with
  | op l r m =>
    obtain ⟨dx, a, b, h1, h2, h3, h4, h5, _⟩ := hd
    exact .inl ⟨_, hx, x, dx, _, rfl, h1, opF_s, hz _ ⟨x, dx, a, b, l, r, m, z, rfl, h1, h2, h3, by omega, by omega, M, h⟩⟩
  | hv j =>
    obtain ⟨dx, h1⟩ := hd
    exact .inr (.inl ⟨_, hx, x, dx, _, rfl, h1, coF_s, hz _ ⟨x, dx, j, z, rfl, h1, M, h _ H Iff.rfl (Same.refl H)⟩⟩)
  | lt j =>
    obtain ⟨dx, h1⟩ := hd
    exact .inr (.inr (.inl ⟨_, hx, x, dx, _, rfl, h1, coF_s, hz _ ⟨x, dx, j, z, rfl, h1, M, h _ H Iff.rfl (Same.refl H)⟩⟩))
  | no =>
    obtain ⟨dx, h1⟩ := hd
    exact .inr (.inr (.inr ⟨_, hx, x, dx, _, rfl, h1, rfl, hz _ ⟨_, z, rfl, M, h _ H (by show _ ↔ (csF z = 1 ∧ allG z = true); simp) (Same.refl H)⟩⟩))
theorem bk_mk {z : Str} (M : MkOk z) : MkOk (bk z) :=
  ⟨fun c hc => M.sg c (bk_mem hc), fun he => ⟨fun h => (M.ex (bk_mem he)).1 (bk_mem h), fun h => (M.ex (bk_mem he)).2 (bk_mem h)⟩, Nat.le_trans (bk_len z) M.len⟩
theorem dec_bl (a b : Bool) : decide (V.bl a = V.bl b) = decide (a = b) := by
  by_cases h : a = b
  · rw [h]; simp
  · rw [decide_eq_false h, decide_eq_false fun z => h (V.bl.inj z)]
theorem few0 {n m : Nat} (h : n = 1) (F : IsFew n m) : m = 0 := by
  cases m with
  | zero => rfl
  | succ m => have := F.2 0 (by omega); rw [h] at this; simp at this
def spRight : Sp := fun vs H Q _ => ∃ z, vs = [.str z] ∧ MkOk z ∧ z.length ≤ 252 ∧ ∀ (H' : Hp), Same H H' → Q (.bl true) H'
theorem sc__law_right : FnScope ["_law_marks_here", "_law_found", "_law_kinds"] ["_law_marks_here"] (defScope (top 46)) := ⟨rfl, rfl, rfl, by decide +kernel, rfl, by decide +kernel, by decide +kernel⟩
theorem ok_right {f : Addr} {fd : FuncData} {e : AA} (F : Fun K "_law_right" "_law_right" (top 46) f fd) (B : Blt mg) (An : Anss K mg e) (Ak : AnsK K e) (c_told : Can P w K mg base CX0 4 "told" ["marks"] (spTd e)) (c__law_whole : Can P w K mg base CX0 1 "_law_whole" ["_law_number"] spWhole)
    (c__law_due : Can P w K mg base CX0 4 "_law_due" ["_law_marks_here", "_law_found"] (spDue e)) (c_cases : Can P w K mg base CX0 2 "cases" ["marks"] spCases) (c__law_cases : Can P w K mg base CX0 1 "_law_cases" ["_law_marks_here"] spLCs) (c_fewest : Can P w K mg base CX0 3 "fewest" ["marks"] spFew)
    (h_Heavy : CanMt P w K mg base 4 e.heavy "shows" ["self", "marks"] (spShC e.heavy 104)) (h_Light : CanMt P w K mg base 4 e.light "shows" ["self", "marks"] (spShC e.light 108)) (h_Nothing : CanMt P w K mg base 3 e.nothing "shows" ["self", "marks"] spShN) (h_Open : CanMt P w K mg base 5 e.opn "shows" ["self", "marks"] (spShO e.opn)) :
    FnOk P w K mg base CX0 6 f fd ["_law_marks_here"] spRight := by
  refine F.ok sc__law_right (fun vs H Q E h => ?_) (fun cdv A outer s H vs Q E hr h => ?_)
  · obtain ⟨z, rfl, _⟩ := h; rfl
  · obtain ⟨z, rfl, M, hzl, q⟩ := h
    have hz : z.length ≤ sizeLine := Nat.le_trans M.len (by decide)
    refine ⟨_, (pss_cons (ps_set (i := 1) sc__law_right.nd rfl (Or.inl rfl) (pe_can c_told (hr.mono (by decide)) pass0 (pa_cons (pv 0) pa_nil)))
      (pss_cons (ps_set (i := 2) sc__law_right.nd rfl (Or.inl rfl) (pe_lst (pa_cons (pe_callB (call_isiC (K := K) rfl) (by rfl) B.isi boot_isi (pa_cons (pv 1) (pa_cons (pe_glob (v := .ref e.heavy) (by rfl) An.m_Heavy rfl) pa_nil))) (pa_cons (pe_callB (call_isiC (K := K) rfl) (by rfl) B.isi boot_isi (pa_cons (pv 1) (pa_cons (pe_glob (v := .ref e.light) (by rfl) An.m_Light rfl) pa_nil))) (pa_cons (pe_callB (call_isiC (K := K) rfl) (by rfl) B.isi boot_isi (pa_cons (pv 1) (pa_cons (pe_glob (v := .ref e.nothing) (by rfl) An.m_Nothing rfl) pa_nil))) (pa_cons (pe_callB (call_isiC (K := K) rfl) (by rfl) B.isi boot_isi (pa_cons (pv 1) (pa_cons (pe_glob (v := .ref e.opn) (by rfl) An.m_Open rfl) pa_nil))) pa_nil))))))
      (pss_cons (ps_if (PW.pt (pw_or (pt_not (pt_val (pe_callB (call_isiC (K := K) rfl) (by rfl) B.isi boot_isi (pa_cons (pv 1) (pa_cons (pe_glob (v := .ref e.ans) (by rfl) An.m_Answer rfl) pa_nil))))) (pw_or1 (pt_cmpR op_ne (pe_bm PySem.F.plainAttrs_list PySem.F.slot_list_count PySem.F.type_list_count mt_lcountB (pv 2) (pa_cons pe_bl pa_nil)) pe_int (nomark _))))) (pss_one (ps_ret pe_bl)) pss_nil)
      (pss_cons (ps_if (PW.pt (pw_and (pt_val (pe_callB (call_isiC (K := K) rfl) (by rfl) B.isi boot_isi (pa_cons (pv 1) (pa_cons (pe_glob (v := .ref e.opn) (by rfl) An.m_Open rfl) pa_nil)))) (pw_and1 (pt_not (pt_val (pe_callB (call_allL rfl) (by rfl) B.all boot_allB (pa_cons (pe_comp (N := ["_law_marks_here", "_law_found", "_law_kinds"]) (sc0 := defScope (top 46)) ["_law_one"] [] [] rfl rfl rfl ⟨rfl, by decide +kernel, by decide +kernel, by decide +kernel, rfl, by decide +kernel⟩ (pi_list (pe_op op_cat (pe_op op_cat (pe_fld (pv 1) rfl) (pe_fld (pv 1) rfl)) (pe_lst (pa_cons (pe_fld (pv 1) rfl) pa_nil)))) (fun _ _ _ _ => (pg_name (i := 0) (by decide +kernel : (["_law_one"] : List Str).Nodup) rfl (Or.inl rfl) (.inr rfl))) (fun _ _ _ _ => (pe_can c__law_whole (hr.mono (by decide)) pass0 (pa_cons (pv 0) pa_nil)))) pa_nil))))))) (pss_one (ps_ret pe_bl)) pss_nil)
      (pss_cons (ps_if (PW.pt (pw_or (pt_not (pt_val (pe_can c__law_due (hr.mono (by decide)) pass0 (pa_cons (pv 0) (pa_cons (pv 1) pa_nil))))) (pw_or1 (pt_cmpR op_isnotB (pe_either (pe_canMt (pv 1) An.cO.cl h_Open (hr.mono (by decide)) (pa_cons (pv 0) pa_nil)) (pe_either (pe_canMt (pv 1) An.cH.cl h_Heavy (hr.mono (by decide)) (pa_cons (pv 0) pa_nil)) (pe_either (pe_canMt (pv 1) An.cL.cl h_Light (hr.mono (by decide)) (pa_cons (pv 0) pa_nil)) (pe_canMt (pv 1) An.cN.cl h_Nothing (hr.mono (by decide)) (pa_cons (pv 0) pa_nil))))) pe_bl (nomark _))))) (pss_one (ps_ret pe_bl)) pss_nil)
      (pss_cons (ps_if (pt_cmpR op_ne (pe_either (pe_canMt (pv 1) An.cO.cl h_Open (hr.mono (by decide)) (pa_cons (pe_slice3 sl_back (pv 0) po_none po_none (po_some (pe_un un_neg pe_int))) pa_nil)) (pe_either (pe_canMt (pv 1) An.cH.cl h_Heavy (hr.mono (by decide)) (pa_cons (pe_slice3 sl_back (pv 0) po_none po_none (po_some (pe_un un_neg pe_int))) pa_nil)) (pe_either (pe_canMt (pv 1) An.cL.cl h_Light (hr.mono (by decide)) (pa_cons (pe_slice3 sl_back (pv 0) po_none po_none (po_some (pe_un un_neg pe_int))) pa_nil)) (pe_canMt (pv 1) An.cN.cl h_Nothing (hr.mono (by decide)) (pa_cons (pe_slice3 sl_back (pv 0) po_none po_none (po_some (pe_un un_neg pe_int))) pa_nil))))) (pe_can c__law_due (hr.mono (by decide)) pass0 (pa_cons (pe_slice3 sl_back (pv 0) po_none po_none (po_some (pe_un un_neg pe_int))) (pa_cons (pv 1) pa_nil))) (nomark _)) (pss_one (ps_ret pe_bl)) pss_nil)
      (pss_cons (ps_if (PW.pt (pw_or (pt_cmpR op_ne (pe_can c_cases (hr.mono (by decide)) pass0 (pa_cons (pv 0) pa_nil)) (pe_can c__law_cases (hr.mono (by decide)) pass0 (pa_cons (pv 0) pa_nil)) (nomark _)) (pw_or1 (pt_cmpR op_ne (pe_can c_fewest (hr.mono (by decide)) pass0 (pa_cons (pv 0) pa_nil)) (pe_ifExp (pt_val (pe_callB (call_isiC (K := K) rfl) (by rfl) B.isi boot_isi (pa_cons (pv 1) (pa_cons (pe_glob (v := .ref e.opn) (by rfl) An.m_Open rfl) pa_nil)))) (pe_fld (pv 1) rfl) pe_int) (nomark _))))) (pss_one (ps_ret pe_bl)) pss_nil)
      (pss_cons (ps_if (pt_val (pe_callB (call_isiC (K := K) rfl) (by rfl) B.isi boot_isi (pa_cons (pv 1) (pa_cons (pe_glob (v := .ref e.opn) (by rfl) An.m_Open rfl) pa_nil)))) (pss_cons (ps_expr (pe_bm PySem.F.plainAttrs_list PySem.F.slot_list_append PySem.F.type_list_append mt_append (pe_fld (pv 1) rfl) (pa_cons (pe_callB call_len_str (by rfl) B.len boot_lenB (pa_cons (pv 0) pa_nil)) pa_nil))) (pss_one (ps_ret (pe_cmpR op_eq (pe_either (pe_canMt (pv 1) An.cO.cl h_Open (hr.mono (by decide)) (pa_cons (pv 0) pa_nil)) (pe_either (pe_canMt (pv 1) An.cH.cl h_Heavy (hr.mono (by decide)) (pa_cons (pv 0) pa_nil)) (pe_either (pe_canMt (pv 1) An.cL.cl h_Light (hr.mono (by decide)) (pa_cons (pv 0) pa_nil)) (pe_canMt (pv 1) An.cN.cl h_Nothing (hr.mono (by decide)) (pa_cons (pv 0) pa_nil))))) (pe_can c__law_due (hr.mono (by decide)) pass0 (pa_cons (pv 0) (pa_cons (pv 1) pa_nil))) (nomark _))))) pss_nil)
      (pss_one (ps_ret pe_bl)))))))))), ?_⟩
    with_reducible generalize hR : tSeq (tAsg (tLst _) (gName 2)) (tSeq _ _) = R
    have rest : ∀ (x : Addr) (d : AD) (H1 : Hp), Same H H1 → d.At e H1 x → d.sh z → (∀ m : Nat, IsFew (csF z) m → match d with | .op _ _ m' => m' = m | _ => m = 0) →
        (∀ l r m, d = .op l r m → ∃ dx a b, H1 x = some (.ins e.opn dx (opF a b (.int m))) ∧ H1 a = some (.lst (l.map V.int)) ∧ H1 b = some (.lst (r.map V.int)) ∧ H a = none ∧ a ≠ b ∧ l.length < 127 ∧ r.length < 127 ∧ -900 ≤ m ∧ m ≤ 900) →
        R { nx := fun _ H' => Q .non H', rt := Q } [some (.str z), some (.ref x), none] H1 := by
      intro x d H1 s1 hd hsh hfew hop
      rw [← hR]
      clear hR
      with_reducible generalize hR2 : tSeq (tIfS (tOr (tNot (tB (tCall (spDue _) _ _ _))) _) _ _) (tSeq _ _) = R2
      have rest2 : ∀ (H3 : Hp) (vk : Option V), Same H1 H3 → R2 { nx := fun _ H' => Q .non H', rt := Q } [some (.str z), some (.ref x), vk] H3 := by
        intro H3 vk s3
        rw [← hR2]
        clear hR2
        have hd3 := AD.same hd s3
        refine ⟨_, rfl, _, rfl, z, x, d, rfl, M, hd3, fun t1 H4 h4 s4 => ?_⟩
        have t1t : t1 = true := h4.mpr hsh
        subst t1t
        refine ⟨_, rfl, fls rfl ?_⟩
        have hd4 := AD.same hd3 s4
        refine show_rd (i := 1) hd4 M rfl (fun R' h' => ⟨_, rfl, h'⟩) fun t2 H5 h5 s5 => ?_
        have t2t : t2 = true := h5.mpr hsh
        subst t2t
        refine ⟨true, true, rfl, rfl, _, rfl, fls rfl ?_⟩
        have hd5 := AD.same hd4 s5
        refine show_rd (i := 1) hd5 (bk_mk M) rfl (fun R' h' => ⟨_, rfl, _, rfl, _, rfl, z, rfl, rfl, rfl, rfl, hz, h'⟩) fun t3 H6 h6 s6 => ?_
        have hd6 := AD.same hd5 s6
        refine ⟨_, rfl, _, rfl, _, rfl, z, rfl, rfl, rfl, rfl, hz, _, rfl, bk z, x, d, rfl, bk_mk M, hd6, fun t4 H7 h7 s7 => ?_⟩
        have e34 : t3 = t4 := Bool.eq_iff_iff.mpr (h6.trans h7.symm)
        subst e34
        refine ⟨rfl, _, rfl, iteNS rfl ?_⟩
        have hd7 := AD.same hd6 s7
        have s17 : Same H1 H7 := (((s3.trans s4).trans s5).trans s6).trans s7
        refine ⟨_, rfl, z, rfl, M, _, rfl, z, rfl, M, rfl, _, rfl, fls (by simp) ?_⟩
        refine ⟨_, rfl, z, rfl, M, fun m Fw => ?_⟩
        obtain ⟨C7, ty7, _, _, _, tO7, _⟩ := AD.ty An Ak hd7
        refine ⟨_, rfl, _, _, _, _, _, rfl, ref_only, ty7, tO7, _, rfl, ?_⟩
        have hf := hfew m Fw
        cases d with
        | op l r m' =>
          obtain ⟨dx, a, b, o1, o2, o3, oa, ab, ol, or', om1, om2⟩ := hop l r m' rfl
          have o1' := s17 _ _ o1
          have o2' := s17 _ _ o2
          have o3' := s17 _ _ o3
          have hf' : m' = (m : Int) := hf
          refine iteT ⟨_, rfl, x, _, dx, _, _, rfl, o1', An.cO.cl, An.nOm, opF_m, rfl, _, rfl, fls (by rw [hf']; simp) ?_⟩
          refine ⟨_, rfl, _, _, _, _, _, rfl, ref_only, ty7, tO7, _, rfl, iteT ?_⟩
          refine ⟨_, rfl, x, _, dx, _, _, rfl, o1', An.cO.cl, An.nOl, opF_l, .inl ⟨rfl, _, SqL.of o2'⟩, _, rfl, z, rfl, hz, a, _, _, rfl, rfl, o2', Nat.lt_of_le_of_lt (show _ ≤ 127 by rw [List.length_map]; omega) (by decide), ?_⟩
          have xa : x ≠ a := fun z => by rw [z, o2'] at o1'; cases o1'
          have s8 : Same H (upd H7 a (.lst (l.map V.int ++ [.int z.length]))) := (s1.trans s17).put' oa
          have hd8 : (AD.op (l ++ [(z.length : Int)]) r m').At e (upd H7 a (.lst (l.map V.int ++ [.int z.length]))) x := by
            refine ⟨dx, a, b, by rw [upd_ne xa]; exact o1', ?_, by rw [upd_ne ab.symm]; exact o3', ?_, by omega, om1, om2⟩
            · rw [upd_same, List.map_append]; rfl
            · rw [List.length_append]; show l.length + 1 < 128; omega
          generalize upd H7 a (.lst (l.map V.int ++ [.int z.length])) = H8 at *
          refine show_rd (i := 1) hd8 M rfl (fun R' h' => ⟨_, rfl, h'⟩) fun t5 H9 h9 s9 => ?_
          refine ⟨_, rfl, _, rfl, z, x, _, rfl, M, AD.same hd8 s9, fun t6 H10 h10 s10 => ?_⟩
          refine ⟨rfl, ?_⟩
          rw [dec_bl, decide_eq_true (Bool.eq_iff_iff.mpr (h9.trans h10.symm))]
          exact q H10 ((s8.trans s9).trans s10)
        | hv i =>
          have hf' : m = 0 := hf
          refine iteF ⟨rfl, _, rfl, fls (by rw [hf']; rfl) ?_⟩
          refine ⟨_, rfl, _, _, _, _, _, rfl, ref_only, ty7, tO7, _, rfl, iteF ?_⟩
          exact q H7 (s1.trans s17)
        | lt i =>
          have hf' : m = 0 := hf
          refine iteF ⟨rfl, _, rfl, fls (by rw [hf']; rfl) ?_⟩
          refine ⟨_, rfl, _, _, _, _, _, rfl, ref_only, ty7, tO7, _, rfl, iteF ?_⟩
          exact q H7 (s1.trans s17)
        | no =>
          have hf' : m = 0 := hf
          refine iteF ⟨rfl, _, rfl, fls (by rw [hf']; rfl) ?_⟩
          refine ⟨_, rfl, _, _, _, _, _, rfl, ref_only, ty7, tO7, _, rfl, iteF ?_⟩
          exact q H7 (s1.trans s17)
      obtain ⟨C, ty, tH, tL, tN, tO, tA⟩ := AD.ty An Ak hd
      refine ⟨_, rfl, _, _, _, _, _, rfl, ref_only, ty, tH, _, rfl, _, _, _, _, _, rfl, ref_only, ty, tL, _, rfl, _, _, _, _, _, rfl, ref_only, ty, tN, _, rfl, _, _, _, _, _, rfl, ref_only, ty, tO, by show 4 ≤ sizeLine; decide, fun pk hpk => ?_⟩
      have s2 : Same H1 (upd H1 pk (.lst [V.bl d.isH, V.bl d.isL, V.bl d.isN, V.bl d.isO])) := Same.upd0 hpk
      have ek : upd H1 pk (.lst [V.bl d.isH, V.bl d.isL, V.bl d.isN, V.bl d.isO]) pk = some (.lst [V.bl d.isH, V.bl d.isL, V.bl d.isN, V.bl d.isO]) := upd_same
      generalize upd H1 pk (.lst [V.bl d.isH, V.bl d.isL, V.bl d.isN, V.bl d.isO]) = H2 at s2 ek ⊢
      have hd2 := AD.same hd s2
      obtain ⟨C2, ty2, _, _, _, tO2, tA2⟩ := AD.ty An Ak hd2
      refine ⟨_, rfl, _, _, _, _, _, rfl, ref_only, ty2, tA2, _, rfl, fls rfl ?_⟩
      refine ⟨_, rfl, .inl ⟨rfl, _, SqL.of ek⟩, pk, [d.isH, d.isL, d.isN, d.isO], true, rfl, rfl, ek, rfl, _, rfl, iteNS (by cases d <;> rfl) ?_⟩
      refine ⟨_, rfl, _, _, _, _, _, rfl, ref_only, ty2, tO2, _, rfl, ?_⟩
      cases d with
      | op l r m =>
        obtain ⟨dx, a, b, o1, o2, o3, oa, ab, ol, or', om1, om2⟩ := hop l r m rfl
        have o1' := s2 _ _ o1
        have o2' := s2 _ _ o2
        have o3' := s2 _ _ o3
        refine iteT ?_
        refine ⟨_, rfl, x, _, dx, _, _, rfl, o1', An.cO.cl, An.nOl, opF_l, _, rfl, x, _, dx, _, _, rfl, o1', An.cO.cl, An.nOr, opF_r, a, b, _, _, rfl, rfl, o2', o3', Nat.le_trans (show _ ≤ 300 by rw [List.length_map, List.length_map]; omega) (by decide), fun p1 hp1 => ?_⟩
        have s3 : Same H2 (upd H2 p1 (.lst (l.map V.int ++ r.map V.int))) := Same.upd0 hp1
        have e3 : upd H2 p1 (.lst (l.map V.int ++ r.map V.int)) p1 = some (.lst (l.map V.int ++ r.map V.int)) := upd_same
        generalize upd H2 p1 (.lst (l.map V.int ++ r.map V.int)) = H3 at *
        refine ⟨_, rfl, x, _, dx, _, _, rfl, s3 _ _ o1', An.cO.cl, An.nOm, opF_m, by show 1 ≤ sizeLine; decide, fun p2 hp2 => ?_⟩
        have p12 : p1 ≠ p2 := ne_of_none e3 hp2
        refine ⟨p1, p2, _, _, rfl, rfl, by rw [upd_ne p12]; exact e3, upd_same, Nat.le_trans (show _ ≤ 300 by rw [List.length_append, List.length_map, List.length_map]; show _ + _ + 1 ≤ 300; omega) (by decide), fun p3 hp3 => ?_⟩
        have s4 : Same H3 (upd (upd H3 p2 (.lst [.int m])) p3 (.lst (l.map V.int ++ r.map V.int ++ [.int m]))) := (Same.upd0 hp2).upd hp3
        have e4 : upd (upd H3 p2 (.lst [.int m])) p3 (.lst (l.map V.int ++ r.map V.int ++ [.int m])) p3 = some (.lst ((l ++ r ++ [m]).map V.int)) := by rw [upd_same, List.map_append, List.map_append]; rfl
        generalize upd (upd H3 p2 (.lst [.int m])) p3 (.lst (l.map V.int ++ r.map V.int ++ [.int m])) = H4 at *
        refine ⟨p3, rfl, ⟨_, SqL.of e4⟩, fun p hp => ?_⟩
        refine comp_list (xs := (l ++ r ++ [m]).map V.int) hp e4 (Nat.lt_of_le_of_lt (show _ ≤ 300 by rw [List.length_map, List.length_append, List.length_append]; show _ + _ + 1 ≤ 300; omega) (by decide)) (fun _ => .bl true) (fun σ' => ∃ v0, σ' = [v0]) ?_ ?_ ?_
        · exact ⟨none, rfl⟩
        · rintro j y σ' H' hj ⟨v0, rfl⟩ sm' KK kk
          obtain ⟨k, hk, rfl⟩ := ints_at hj
          exact ⟨_, rfl, k, rfl, kk [some (.int k)] H' ⟨_, rfl⟩ (Same.refl _)⟩
        · intro H5 s5 hq
          have e5 : ((l ++ r ++ [m]).map V.int).map (fun _ => V.bl true) = ((l ++ r ++ [m]).map fun _ => true).map V.bl := by rw [List.map_map, List.map_map]; rfl
          rw [e5] at hq
          refine ⟨p, _, rfl, hq, _, rfl, fls (by simp) ?_⟩
          exact rest2 H5 _ (((s2.trans s3).trans s4).trans s5)
      | hv i => exact fls rfl (fls rfl (rest2 _ _ s2))
      | lt i => exact fls rfl (fls rfl (rest2 _ _ s2))
      | no => exact fls rfl (fls rfl (rest2 _ _ s2))
    have half : ∀ {l r : List Int}, Wg z.length l r → l.length < 127 ∧ r.length < 127 := by
      intro l r W
      have nd : (l ++ r).Nodup := by
        rw [List.nodup_append]
        refine ⟨W.risL.imp (fun h => by omega), W.risR.imp (fun h => by omega), fun a ha b hb e => ?_⟩
        subst e; exact W.dis a ha hb
      have sub : (l ++ r) ⊆ (List.range (z.length + 1)).map (fun (i : Nat) => (i : Int)) := fun x hx => by
        have : 0 ≤ x ∧ x ≤ z.length := by
          rcases List.mem_append.mp hx with h | h
          · exact W.inL x h
          · exact W.inR x h
        exact List.mem_map.mpr ⟨x.toNat, List.mem_range.mpr (by omega), by omega⟩
      have := List.Nodup.length_le_of_subset nd sub
      simp at this
      have := W.len
      omega
    refine ⟨_, rfl, z, rfl, M, hzl, ⟨fun m x dx p1 p2 l r H2 Fw hm s2 O => ?_, fun i x dx H2 c1 hi nx s2 ex => ?_, fun i x dx H2 c1 n1 hi nx s2 ex => ?_, fun x dx H2 c1 g nx s2 ex => ?_⟩⟩
    · obtain ⟨w1, w2⟩ := half O.wg
      have mle : m ≤ 601 := Nat.le_trans Fw.le (cs_le M)
      refine rest x (.op l r m) H2 s2 ⟨dx, p1, p2, O.ox, O.oa, O.ob, by omega, by omega, by omega, by omega⟩ ⟨fun c1 => ?_, ⟨m, rfl, Fw⟩, cwOk_iff.mpr O.wg, fun o => ?_⟩ (fun m' F' => by show (m : Int) = m'; rw [Fw.uniq F']) fun l' r' m' e => ?_
      · have := few0 c1 Fw; omega
      · have := O.jd o
        rw [show ((m : Int) - 1).toNat = m - 1 by omega]; exact this
      · cases e
        exact ⟨dx, p1, p2, O.ox, O.oa, O.ob, O.na, O.ab, w1, w2, by omega, by omega⟩
    · have il : i < z.cps.toList.length := (List.getElem?_eq_some_iff.mp hi).1
      refine rest x (.hv i) H2 s2 ⟨dx, ex⟩ ?_ (fun m' F' => few0 c1 F') fun l' r' m' e => by cases e
      show oneB z i 104 = true
      unfold oneB
      rw [decide_eq_true c1, decide_eq_true (show (0 : Int) ≤ (i : Int) by omega), decide_eq_true (show (i : Int) < z.length by rw [str_len]; omega), Int.toNat_natCast, decide_eq_true hi]
      rfl
    · have il : i < z.cps.toList.length := (List.getElem?_eq_some_iff.mp hi).1
      refine rest x (.lt i) H2 s2 ⟨dx, ex⟩ ?_ (fun m' F' => few0 c1 F') fun l' r' m' e => by cases e
      show oneB z i 108 = true
      unfold oneB
      rw [decide_eq_true c1, decide_eq_true (show (0 : Int) ≤ (i : Int) by omega), decide_eq_true (show (i : Int) < z.length by rw [str_len]; omega), Int.toNat_natCast, decide_eq_true hi]
      rfl
    · exact rest x .no H2 s2 ⟨dx, ex⟩ ⟨c1, g⟩ (fun m' F' => few0 c1 F') fun l' r' m' e => by cases e
end
end Ks
end
section
namespace Ks
open PySem L2 Mir PyProof.Rows
theorem slice_sub {z : Str} {lo hi : Option Int} {c : Nat} (h : c ∈ (Txt.slice z lo hi).cps.toList) : c ∈ z.cps.toList := by
  unfold Txt.slice at h
  split at h
  · exact h
  · have h' : c ∈ List.filterMap (fun x => z.cps[x]?) (Builtin.Str.strSliceIndices lo hi 1 z.length) := by simpa using h
    obtain ⟨i, _, hi⟩ := List.mem_filterMap.mp h'
    exact Array.mem_toList_iff.mpr (Array.mem_of_getElem? hi)
theorem cut_mk {z : Str} (M : MkOk z) (lo hi : Option Int) : MkOk (Txt.slice z lo hi) :=
  ⟨fun c hc => M.sg c (slice_sub hc), fun he => ⟨fun h => (M.ex (slice_sub he)).1 (slice_sub h), fun h => (M.ex (slice_sub he)).2 (slice_sub h)⟩, Nat.le_trans (Txt.slice_le z lo hi) M.len⟩
theorem mul_list (x : Str) (n : Nat) : (Txt.mul x (n : Int)).cps.toList = (List.replicate n x.cps.toList).flatten := by
  unfold Txt.mul
  split
  · have : n = 0 := by omega
    subst this; rfl
  · split
    · rename_i h1 h2
      rcases Bool.or_eq_true_iff.mp h2 with z | z
      · have : n = 1 := by have := beq_iff_eq.mp z; omega
        subst this; simp
      · have z' : x.cps.toList = [] := by
          have : x.cps.toList.length = 0 := by rw [← str_len]; simpa using z
          exact List.length_eq_zero_iff.mp this
        rw [z']; simp
    · rw [Int.toNat_natCast]
      have go : ∀ (k : Nat) (acc : Array Nat), (List.foldl (fun x1 x2 => x1 ++ x2) acc (List.replicate k x.cps)).toList = acc.toList ++ (List.replicate k x.cps.toList).flatten := by
        intro k
        induction k with
        | zero => intro acc; simp
        | succ k ih =>
          intro acc
          rw [List.replicate_succ, List.foldl_cons, ih, Array.toList_append, List.append_assoc, List.replicate_succ, List.flatten_cons]
      have := go n #[]
      simpa using this
theorem mul_mem {x : Str} {n c : Nat} (h : c ∈ (Txt.mul x (n : Int)).cps.toList) : c ∈ x.cps.toList := by
  rw [mul_list] at h
  obtain ⟨l, h1, h2⟩ := List.mem_flatten.mp h
  rw [List.eq_of_mem_replicate h1] at h2; exact h2
theorem mul_len (x : Str) (n : Nat) : (Txt.mul x (n : Int)).length = n * x.length := by
  rw [str_len, mul_list, List.length_flatten, List.map_replicate, List.sum_replicate_nat, ← str_len]
theorem mulOk_4 {x : Str} (hx : x.length ≤ 4) (n : Nat) (h : n ≤ 1000) : MulOk x (n : Int) := by
  refine ⟨by simp; omega, fun h1 _ h2 => ?_, fun h1 _ => ?_⟩
  · have : (4 : Int) ≤ (2 ^ 63 - 1) / (n : Int) := by
      rw [Int.le_ediv_iff_mul_le (by omega)]; omega
    omega
  · rw [Int.toNat_natCast]
    unfold Builtin.Str.tooLong
    refine decide_eq_false ?_
    have : (4000 : Nat) ≤ sizeLine := by decide
    have : x.length * n ≤ 4 * 1000 := Nat.mul_le_mul hx h
    omega
theorem mk_noe {z : Str} (h : ∀ c ∈ z.cps.toList, c = 104 ∨ c = 108 ∨ c = 103) (hl : z.length ≤ 300) : MkOk z :=
  ⟨fun c hc => by rcases h c hc with e | e | e; exact .inr (.inl e); exact .inr (.inr (.inl e)); exact .inr (.inr (.inr e)), fun he => by rcases h 101 he with e | e | e <;> exact absurd e (by decide), hl⟩
theorem ch_mem {a c : Nat} (h : c ∈ (ch1 a).cps.toList) : c = a := by simpa using h
theorem app_len (a b : Str) : (a ++ b).length = a.length + b.length := by rw [str_len, app_cps, List.length_append, ← str_len, ← str_len]
theorem ch_len (a : Nat) : (ch1 a).length = 1 := rfl
theorem hhhl_mem {c : Nat} (h : c ∈ ("hhhl" : Str).cps.toList) : c = 104 ∨ c = 108 := by
  have e : ("hhhl" : Str).cps.toList = [104, 104, 104, 108] := by decide +kernel
  rw [e] at h
  simp at h
  rcases h with h | h
  · exact .inl h
  · exact .inr h
theorem hhhl_len : ("hhhl" : Str).length = 4 := by decide +kernel
def Fine (y : Str) : Prop := MkOk y ∧ y.length ≤ 252
section
variable {P : Program} {w : World} {K : PySem.W.Frag} {mg : Str → Option Value} {base : Heap}
def spLaw (K : PySem.W.Frag) : Sp := fun vs H Q _ => ∃ (a : Addr) (ns : List Int), vs = [.ref a] ∧ SqL K H a (ns.map V.int) ∧ ns.length ≤ 63 ∧ ∀ H', Same H H' → Q (.bl true) H'
theorem SqL.same {K : PySem.W.Frag} {H H' : Hp} {a : Addr} {xs : List V} (e : Same H H') (h : SqL K H a xs) : SqL K H' a xs := by
  rcases h with (h | ⟨o, h⟩) | h
  · exact .inl (.inl (e _ _ h))
  · exact .inl (.inr ⟨o, e _ _ h⟩)
  · exact .inr h
theorem sc_law : FnScope ["_law_script", "_law_marks_here", "_law_some", "_law_at"] ["_law_script"] (defScope (top 47)) := ⟨rfl, rfl, rfl, by decide +kernel, rfl, by decide +kernel, by decide +kernel⟩
theorem ok_law {f : Addr} {fd : FuncData} (F : Fun K "law" "law" (top 47) f fd) (B : Blt mg) (c__law_cell_at : Can P w K mg base CX0 1 "_law_cell_at" ["_law_script", "_law_k"] (spCell K)) (c__law_draw : Can P w K mg base CX0 1 "_law_draw" ["_law_cell", "_law_k", "_law_many"] spDraw)
    (c__law_marks : Can P w K mg base CX0 2 "_law_marks" ["_law_script"] (spMarks K)) (c__law_right : Can P w K mg base CX0 6 "_law_right" ["_law_marks_here"] spRight) : FnOk P w K mg base CX0 7 f fd ["_law_script"] (spLaw K) := by
  refine F.ok sc_law (fun vs H Q E h => ?_) (fun cdv A outer s H vs Q E hr h => ?_)
  · obtain ⟨a, ns, rfl, _⟩ := h; rfl
  · obtain ⟨a, ns, rfl, ha, hn, q⟩ := h
    refine ⟨_, (pss_cons (ps_set (i := 1) sc_law.nd rfl (Or.inl rfl) (pe_can c__law_marks (hr.mono (by decide)) pass0 (pa_cons (pv 0) pa_nil)))
      (pss_cons (ps_for PassesOwn.never rfl (pi_tup (pe_tup (pa_cons (pv 1) (pa_cons (pe_op op_mulS pe_str (pe_callB call_len_seq (by rfl) B.len boot_lenB (pa_cons (pv 0) pa_nil))) (pa_cons (pv 1) (pa_cons (pe_op op_mulS pe_str (pe_callB call_len_seq (by rfl) B.len boot_lenB (pa_cons (pv 0) pa_nil))) (pa_cons (pe_op op_mulS pe_str (pe_callB call_len_seq (by rfl) B.len boot_lenB (pa_cons (pv 0) pa_nil))) (pa_cons (pe_slice sl_str (pv 1) po_none (po_some pe_int)) pa_nil)))))))) (pg_name (i := 2) sc_law.nd rfl (Or.inl rfl)) (pss_one (ps_if (pt_not (pt_val (pe_can c__law_right (hr.mono (by decide)) pass0 (pa_cons (pv 2) pa_nil)))) (pss_one (ps_ret pe_bl)) pss_nil)))
      (pss_cons (ps_set (i := 3) sc_law.nd rfl (Or.inl rfl) (pe_can c__law_draw (hr.mono (by decide)) pass0 (pa_cons (pe_can c__law_cell_at (hr.mono (by decide)) pass0 (pa_cons (pv 0) (pa_cons pe_int pa_nil))) (pa_cons pe_int (pa_cons (pe_op op_add (pe_callB call_len_seq (by rfl) B.len boot_lenB (pa_cons (pv 0) pa_nil)) pe_int) pa_nil)))))
      (pss_cons (ps_for PassesOwn.never rfl (pi_tup (pe_tup (pa_cons (pe_op op_add_str (pe_op op_mulS pe_str (pv 3)) pe_str) (pa_cons (pe_op op_add_str (pe_op op_add_str pe_str (pe_op op_mulS pe_str (pv 3))) pe_str) (pa_cons (pe_op op_add_str (pe_op op_mulS pe_str (pv 3)) pe_str) (pa_cons (pe_op op_add_str (pe_op op_mulS pe_str (pe_callB call_len_seq (by rfl) B.len boot_lenB (pa_cons (pv 0) pa_nil))) (pe_op op_mulS pe_str (pv 3))) (pa_cons (pe_op op_mulS pe_str (pv 3)) pa_nil))))))) (pg_name (i := 2) sc_law.nd rfl (Or.inl rfl)) (pss_one (ps_if (pt_not (pt_val (pe_can c__law_right (hr.mono (by decide)) pass0 (pa_cons (pv 2) pa_nil)))) (pss_one (ps_ret pe_bl)) pss_nil)))
      (pss_one (ps_ret pe_bl)))))), ?_⟩
    have M := marksF_ok (show ns.length ≤ 100 by omega)
    have hzl := marksF_len ns
    refine ⟨_, rfl, a, ns, rfl, ha, hn, fun H1 s1 => ?_⟩
    generalize marksF ns = z at M hzl ⊢
    have hzs : z.length ≤ sizeLine := Nat.le_trans M.len (by decide)
    have ok1 : ∀ {x : Str}, x.length ≤ 4 → MulOk x (((ns.map V.int).length : Nat) : Int) := fun hx => mulOk_4 hx _ (by rw [List.length_map]; omega)
    have lm : ((ns.map V.int).length : Nat) = ns.length := List.length_map _
    refine ⟨_, rfl, _, rfl, a, _, rfl, .inl (SqL.same s1 ha), _, _, rfl, rfl, ok1 (by decide +kernel), _, rfl, _, rfl, a, _, rfl, .inl (SqL.same s1 ha), _, _, rfl, rfl, ok1 (by decide +kernel), _, rfl, a, _, rfl, .inl (SqL.same s1 ha), _, _, rfl, rfl, ok1 (by decide +kernel), _, rfl, _, rfl, z, rfl, hzs, ?_⟩
    rw [lm]
    refine ⟨by show 6 ≤ sizeLine; decide, fun t ht => ⟨t, rfl, ⟨_, SqT.of upd_same⟩, ?_⟩⟩
    have f0 : Fine z := ⟨M, by omega⟩
    have fm : ∀ (c : Nat), c = 101 ∨ c = 104 ∨ c = 103 → Fine (Txt.mul (ch1 c) (ns.length : Int)) := fun c hc => by
      have hl : (Txt.mul (ch1 c) (ns.length : Int)).length = ns.length := by rw [mul_len, ch_len, Nat.mul_one]
      refine ⟨⟨fun d hd => ?_, fun he => ?_, by omega⟩, by omega⟩
      · have := ch_mem (mul_mem hd)
        subst this
        rcases hc with e | e | e
        · exact .inl e
        · exact .inr (.inl e)
        · exact .inr (.inr (.inr e))
      · have e1 := ch_mem (mul_mem he)
        refine ⟨fun h => ?_, fun h => ?_⟩
        · have := ch_mem (mul_mem h); omega
        · have := ch_mem (mul_mem h); omega
    have all1 : ∀ x ∈ [V.str z, .str (Txt.mul "e" (ns.length : Int)), .str z, .str (Txt.mul "h" (ns.length : Int)), .str (Txt.mul "g" (ns.length : Int)), .str (Txt.slice z none (some 1))], ∃ y, x = .str y ∧ Fine y := by
      intro x hx
      simp only [List.mem_cons, List.not_mem_nil, or_false] at hx
      rcases hx with e | e | e | e | e | e
      · exact ⟨_, e, f0⟩
      · exact ⟨_, e, by rw [s_e]; exact fm 101 (.inl rfl)⟩
      · exact ⟨_, e, f0⟩
      · exact ⟨_, e, by rw [s_h]; exact fm 104 (.inr (.inl rfl))⟩
      · exact ⟨_, e, by rw [s_g]; exact fm 103 (.inr (.inr rfl))⟩
      · exact ⟨_, e, cut_mk M _ _, Nat.le_trans (Txt.slice_le z _ _) (by omega)⟩
    have e1 : upd H1 t (.tup [V.str z, .str (Txt.mul "e" (ns.length : Int)), .str z, .str (Txt.mul "h" (ns.length : Int)), .str (Txt.mul "g" (ns.length : Int)), .str (Txt.slice z none (some 1))]) t = some (.tup [V.str z, .str (Txt.mul "e" (ns.length : Int)), .str z, .str (Txt.mul "h" (ns.length : Int)), .str (Txt.mul "g" (ns.length : Int)), .str (Txt.slice z none (some 1))]) := upd_same
    have s2 := s1.upd (o := .tup [V.str z, .str (Txt.mul "e" (ns.length : Int)), .str z, .str (Txt.mul "h" (ns.length : Int)), .str (Txt.mul "g" (ns.length : Int)), .str (Txt.slice z none (some 1))]) ht
    refine for_tup (K := K) (a := t) (xs := [V.str z, .str (Txt.mul "e" (ns.length : Int)), .str z, .str (Txt.mul "h" (ns.length : Int)), .str (Txt.mul "g" (ns.length : Int)), .str (Txt.slice z none (some 1))]) (fun _ σ H3 => Same (upd H1 t (.tup [V.str z, .str (Txt.mul "e" (ns.length : Int)), .str z, .str (Txt.mul "h" (ns.length : Int)), .str (Txt.mul "g" (ns.length : Int)), .str (Txt.slice z none (some 1))])) H3 ∧ ∃ v2, σ = [some (.ref a), some (.str z), v2, none]) ?_ ?_ ?_ ?_
    · exact ⟨Same.refl _, _, rfl⟩
    · rintro j σ H3 _ ⟨s3, _⟩
      exact SqT.of (s3 _ _ e1)
    · rintro j x σ H3 hx ⟨s3, v2, rfl⟩
      obtain ⟨y, rfl, My, hy⟩ := all1 x (List.mem_of_getElem? hx)
      refine ⟨_, rfl, y, rfl, My, hy, fun H4 s4 => ⟨_, rfl, fls rfl ?_⟩⟩
      exact ⟨s3.trans s4, _, rfl⟩
    · rintro σ H3 ⟨s3, v2, rfl⟩
      have s03 := s2.trans s3
      refine ⟨_, rfl, a, ns, 1, rfl, SqL.same s03 ha, by decide, _, rfl, a, _, rfl, .inl (SqL.same s03 ha), _, _, rfl, rfl, _, 3, _, rfl, by decide, ?_, fun H4 s4 => ?_⟩
      · rw [lm]; omega
      rw [lm]
      have d0 := drawF_nonneg (c := cellF ns 1) (k := 3) (m := (ns.length : Int) + 1) (by omega)
      have d1 := drawF_lt (c := cellF ns 1) (k := 3) (m := (ns.length : Int) + 1) (by omega)
      obtain ⟨k, hk⟩ : ∃ k : Nat, drawF (cellF ns 1) 3 ((ns.length : Int) + 1) = k := ⟨(drawF (cellF ns 1) 3 ((ns.length : Int) + 1)).toNat, by omega⟩
      rw [hk] at d1 ⊢
      have s04 := s03.trans s4
      have okk : ∀ {x : Str}, x.length ≤ 4 → MulOk x (k : Int) := fun hx => mulOk_4 hx _ (by omega)
      have line : ∀ n : Nat, n ≤ 400 → n ≤ sizeLine := fun n hn => Nat.le_trans hn (by decide)
      have lg : ("g" : Str).length = 1 := by decide +kernel
      have lh : ("h" : Str).length = 1 := by decide +kernel
      have ll : ("l" : Str).length = 1 := by decide +kernel
      have kg : (Txt.mul "g" (k : Int)).length = k := by rw [mul_len, lg, Nat.mul_one]
      have kl : (Txt.mul "l" (k : Int)).length = k := by rw [mul_len, ll, Nat.mul_one]
      have nh : (Txt.mul "h" (((ns.map V.int).length : Nat) : Int)).length = ns.length := by rw [mul_len, lh, Nat.mul_one, lm]
      have k4 : (Txt.mul "hhhl" (k : Int)).length = k * 4 := by rw [mul_len, hhhl_len]
      have hgl : ("h" ++ Txt.mul "g" (k : Int) : Str).length = 1 + k := by rw [app_len, lh, kg]
      have k63 : k ≤ 63 := by omega
      refine ⟨_, rfl, _, _, rfl, rfl, okk (by rw [lg]; decide), _, _, rfl, rfl, line _ (by rw [kg, ll]; omega), _, rfl, _, _, rfl, rfl, okk (by rw [lg]; decide), _, _, rfl, rfl, line _ (by rw [kg, lh]; omega), _, _, rfl, rfl, line _ (by rw [hgl, ll]; omega), _, rfl, _, _, rfl, rfl, okk (by rw [ll]; decide), _, _, rfl, rfl, line _ (by rw [kl, lh]; omega), _, rfl, a, _, rfl, .inl (SqL.same s04 ha), _, _, rfl, rfl, ok1 (by rw [lh]; decide), _, rfl, _, _, rfl, rfl, okk (by rw [ll]; decide), _, _, rfl, rfl, line _ (by rw [nh, kl]; omega), _, rfl, _, _, rfl, rfl, okk (by rw [hhhl_len]; decide), ?_⟩
      refine ⟨by show 5 ≤ sizeLine; decide, fun t2 ht2 => ⟨t2, rfl, ⟨_, SqT.of upd_same⟩, ?_⟩⟩
      obtain ⟨xs, hxs⟩ : ∃ xs : List V, xs = [.str (Txt.mul "g" (k : Int) ++ "l"), .str ("h" ++ Txt.mul "g" (k : Int) ++ "l"), .str (Txt.mul "l" (k : Int) ++ "h"), .str (Txt.mul "h" (((ns.map V.int).length : Nat) : Int) ++ Txt.mul "l" (k : Int)), .str (Txt.mul "hhhl" (k : Int))] := ⟨_, rfl⟩
      have mg : ∀ c ∈ (Txt.mul "g" (k : Int)).cps.toList, c = 103 := fun c hc => by have := mul_mem hc; rw [s_g] at this; exact ch_mem this
      have ml : ∀ c ∈ (Txt.mul "l" (k : Int)).cps.toList, c = 108 := fun c hc => by have := mul_mem hc; rw [s_l] at this; exact ch_mem this
      have mh : ∀ c ∈ (Txt.mul "h" (((ns.map V.int).length : Nat) : Int)).cps.toList, c = 104 := fun c hc => by have := mul_mem hc; rw [s_h] at this; exact ch_mem this
      have m1h : ∀ c ∈ ("h" : Str).cps.toList, c = 104 := fun c hc => by rw [s_h] at hc; exact ch_mem hc
      have m1l : ∀ c ∈ ("l" : Str).cps.toList, c = 108 := fun c hc => by rw [s_l] at hc; exact ch_mem hc
      have all2 : ∀ x ∈ xs, ∃ y, x = .str y ∧ Fine y := by
        intro x hx
        rw [hxs] at hx
        simp only [List.mem_cons, List.not_mem_nil, or_false] at hx
        rcases hx with e | e | e | e | e
        · refine ⟨_, e, mk_noe (fun c hc => ?_) (by rw [app_len, kg, ll]; omega), by rw [app_len, kg, ll]; omega⟩
          rw [app_cps] at hc
          rcases List.mem_append.mp hc with z | z
          · exact .inr (.inr (mg c z))
          · exact .inr (.inl (m1l c z))
        · refine ⟨_, e, mk_noe (fun c hc => ?_) (by rw [app_len, hgl, ll]; omega), by rw [app_len, hgl, ll]; omega⟩
          rw [app_cps, app_cps] at hc
          rcases List.mem_append.mp hc with z | z
          · rcases List.mem_append.mp z with y | y
            · exact .inl (m1h c y)
            · exact .inr (.inr (mg c y))
          · exact .inr (.inl (m1l c z))
        · refine ⟨_, e, mk_noe (fun c hc => ?_) (by rw [app_len, kl, lh]; omega), by rw [app_len, kl, lh]; omega⟩
          rw [app_cps] at hc
          rcases List.mem_append.mp hc with z | z
          · exact .inr (.inl (ml c z))
          · exact .inl (m1h c z)
        · refine ⟨_, e, mk_noe (fun c hc => ?_) (by rw [app_len, nh, kl]; omega), by rw [app_len, nh, kl]; omega⟩
          rw [app_cps] at hc
          rcases List.mem_append.mp hc with z | z
          · exact .inl (mh c z)
          · exact .inr (.inl (ml c z))
        · refine ⟨_, e, mk_noe (fun c hc => ?_) (by rw [k4]; omega), by rw [k4]; omega⟩
          rcases hhhl_mem (mul_mem hc) with z | z
          · exact .inl z
          · exact .inr (.inl z)
      rw [← hxs]
      have e2 : upd H4 t2 (.tup xs) t2 = some (.tup xs) := upd_same
      have s05 := s04.upd (o := .tup xs) ht2
      refine for_tup (K := K) (a := t2) (xs := xs) (fun _ σ H5 => Same (upd H4 t2 (.tup xs)) H5 ∧ ∃ v2, σ = [some (.ref a), some (.str z), v2, some (.int k)]) ?_ ?_ ?_ ?_
      · exact ⟨Same.refl _, _, rfl⟩
      · rintro j σ H5 _ ⟨s5, _⟩
        exact SqT.of (s5 _ _ e2)
      · rintro j x σ H5 hx ⟨s5, v2, rfl⟩
        obtain ⟨y, rfl, My, hy⟩ := all2 x (List.mem_of_getElem? hx)
        refine ⟨_, rfl, y, rfl, My, hy, fun H6 s6 => ⟨_, rfl, fls rfl ?_⟩⟩
        exact ⟨s5.trans s6, _, rfl⟩
      · rintro σ H5 ⟨s5, v2, rfl⟩
        exact q H5 (s05.trans s5)
end
end Ks
end
section
namespace Ks
open PySem L2 Mir
def DefIn (K : PySem.W.Frag) (x : Str) (st : Stmt) : Prop := ∃ f fd, PySem.W.nsIn K mainGlobals x = some (some (.ref f)) ∧ Fun K x x st f fd
theorem def_mk {K : PySem.W.Frag} {x : Str} {st : Stmt} {f : Addr} {oc : Value} {od an : Option Addr} {osl : Array (Option Value)} {kV doc pm cdv ct : Value} (a : PySem.W.nsIn K mainGlobals x = some (some (.ref f)))
    (l : K.lookup f = some ⟨oc, od, .func (PySem.W.fnOf x x (defArgs st) (defBody st) (defScope st) .none kV doc pm an cdv ct), osl⟩) (c : PySem.W.codeIn K cdv x = true) (k : PySem.W.keepIn K (.ref f) = true) : DefIn K x st := ⟨f, _, a, fun_mk l c k⟩
theorem can_of {P : Program} {w : World} {K : PySem.W.Frag} {mg : Str → Option Value} {base h : Heap} {CX : CXT} {k : Nat} {x : Str} {st : Stmt} {ps : List Str} {sp : Sp} (X : K.In h) (G : h.Ns mainGlobals mg) (D : DefIn K x st)
    (hb : ∀ (kV doc pm : Value) (an : Option Addr) (cdv ct : Value) (us : List Value), us.length = ps.length → bindArgs (PySem.W.fnOf x x (defArgs st) (defBody st) (defScope st) .none kV doc pm an cdv ct) ⟨us, []⟩ = pure (ps.zip us))
    (ok : ∀ f fd, Fun K x x st f fd → FnOk P w K mg base CX k f fd ps sp) : Can P w K mg base CX k x ps sp := by
  obtain ⟨f, fd, a, F⟩ := D
  exact ⟨f, fd, PySem.W.mg_of X G a, F.kp, F.binds hb, ok f fd F⟩
theorem oth_mk {K : PySem.W.Frag} {w : World} {h : Heap} {mg : Str → Option Value} (X : K.In h) (G : h.Ns mainGlobals mg) {d : Addr} {es : Array DictEntry} {n : Nat} {t1 t2 t3 : Tok} (a : PySem.W.nsIn K mainGlobals "OTHER" = some (some (.ref d))) (l : K.lookup d = some ⟨.type "dict", none, .dict es n, #[]⟩)
    (b1 : PySem.W.nsIn K d "left" = some (some (.str "right" t1))) (b2 : PySem.W.nsIn K d "right" = some (some (.str "left" t2))) (b3 : PySem.W.nsIn K d "even" = some (some (.str "even" t3))) (kl : PySem.W.KeysLit w.params es.toList) : Oth K w mg :=
  ⟨d, es, n, PySem.W.mg_of X G a, l, kl, fun p => match p with | .L => ⟨_, b1, ⟨t1, rfl⟩⟩ | .R => ⟨_, b2, ⟨t2, rfl⟩⟩ | .E => ⟨_, b3, ⟨t3, rfl⟩⟩⟩
def clsB (K : PySem.W.Frag) (C : Addr) : Bool := PySem.W.plainGet K C Str.empty && PySem.W.hasDictIn K C && PySem.W.plainOver K C && (PySem.W.findIn K (.ref C) "__setattr__" == some (some (.builtin "object.__setattr__"))) &&
  (PySem.W.findIn K (.ref C) "__class__" == some (some (.builtin "object.__class__"))) && (PySem.W.mroIn K C (.type "object") == some true)
theorem acls_mk {K : PySem.W.Frag} {C : Addr} (h : clsB K C = true) : ACls K C := by
  unfold clsB at h
  simp only [Bool.and_eq_true, beq_iff_eq] at h
  obtain ⟨⟨⟨⟨⟨a1, a2⟩, a3⟩, a4⟩, a5⟩, a6⟩ := h
  exact ⟨⟨a1, a2, a3, a4⟩, a5, a6⟩
def fieldB (K : PySem.W.Frag) (C : Addr) (fs : List Str) : Bool := fs.all fun f => PySem.W.findIn K (.ref C) f == some none
def kitB (K : PySem.W.Frag) (cs : List Addr) : Bool := cs.all fun c => cs.all fun d => PySem.W.kitOne K (.ref c) (.ref d) == some (decide (c = d))
def makeB (K : PySem.W.Frag) (C : Addr) (v : Value) : Bool := PySem.W.makesIn K C && (PySem.W.findIn K (.ref C) "__init__" == some (some v)) && PySem.W.keepIn K (.ref C)
theorem anss_mk {K : PySem.W.Frag} {h : Heap} {mg : Str → Option Value} (X : K.In h) (G : h.Ns mainGlobals mg) {c0 c1 c2 c3 c4 : Addr} (n0 : PySem.W.nsIn K mainGlobals "Answer" = some (some (.ref c0))) (n1 : PySem.W.nsIn K mainGlobals "Heavy" = some (some (.ref c1)))
    (n2 : PySem.W.nsIn K mainGlobals "Light" = some (some (.ref c2))) (n3 : PySem.W.nsIn K mainGlobals "Nothing" = some (some (.ref c3))) (n4 : PySem.W.nsIn K mainGlobals "Open" = some (some (.ref c4)))
    (sp : PySem.W.specialIn K (.builtin "object.__class__") "__get__" = some (some (.builtin "getset_descriptor.__get__"))) (tk : PySem.W.takesIn K (.builtin "object.__class__") = some true) (nd : [c1, c2, c3, c4].Nodup)
    (b1 : clsB K c1 = true) (b2 : clsB K c2 = true) (b3 : clsB K c3 = true) (b4 : clsB K c4 = true) (f1 : fieldB K c1 ["coin"] = true) (f2 : fieldB K c2 ["coin"] = true) (f4 : fieldB K c4 ["left", "right", "many"] = true)
    (m3 : makeB K c3 (.builtin "object.__init__") = true) (kt : kitB K [c1, c2, c3, c4] = true) : Anss K mg ⟨c0, c1, c2, c3, c4⟩ := by
  unfold makeB at m3
  simp only [Bool.and_eq_true, beq_iff_eq] at m3
  obtain ⟨⟨x1, x2⟩, x3⟩ := m3
  unfold fieldB at f1 f2 f4
  simp only [List.all_cons, List.all_nil, Bool.and_true, Bool.and_eq_true, beq_iff_eq] at f1 f2 f4
  have k : ∀ c ∈ [c1, c2, c3, c4], ∀ d ∈ [c1, c2, c3, c4], PySem.W.kitOne K (.ref c) (.ref d) = some (decide (c = d)) := fun c hc d hd => by
    have := List.all_eq_true.mp (List.all_eq_true.mp kt c hc) d hd
    exact beq_iff_eq.mp this
  simp only [List.nodup_cons, List.mem_cons, List.not_mem_nil, not_or, or_false] at nd
  obtain ⟨⟨d12, d13, d14⟩, ⟨d23, d24⟩, d34, _⟩ := nd
  have t : ∀ c ∈ [c1, c2, c3, c4], PySem.W.kitOne K (.ref c) (.ref c) = some true := fun c hc => by rw [k c hc c hc, decide_eq_true rfl]
  have n : ∀ c ∈ [c1, c2, c3, c4], ∀ d ∈ [c1, c2, c3, c4], c ≠ d → PySem.W.kitOne K (.ref c) (.ref d) = some false := fun c hc d hd ne => by rw [k c hc d hd, decide_eq_false ne]
  have i1 : c1 ∈ [c1, c2, c3, c4] := by simp
  have i2 : c2 ∈ [c1, c2, c3, c4] := by simp
  have i3 : c3 ∈ [c1, c2, c3, c4] := by simp
  have i4 : c4 ∈ [c1, c2, c3, c4] := by simp
  exact ⟨PySem.W.mg_of X G n0, PySem.W.mg_of X G n1, PySem.W.mg_of X G n2, PySem.W.mg_of X G n3, PySem.W.mg_of X G n4, acls_mk b1, acls_mk b2, acls_mk b3, acls_mk b4, f1, f2, f4.1, f4.2.1, f4.2.2, ⟨x1, x2, x3⟩, sp, tk,
    t _ i1, n _ i1 _ i2 d12, n _ i1 _ i3 d13, n _ i1 _ i4 d14, n _ i2 _ i1 (Ne.symm d12), t _ i2, n _ i2 _ i3 d23, n _ i2 _ i4 d24, n _ i3 _ i1 (Ne.symm d13), n _ i3 _ i2 (Ne.symm d23), t _ i3, n _ i3 _ i4 d34, n _ i4 _ i1 (Ne.symm d14), n _ i4 _ i2 (Ne.symm d24), n _ i4 _ i3 (Ne.symm d34), t _ i4⟩
def IniIn (K : PySem.W.Frag) (C : Addr) (qual : Str) (st : Stmt) : Prop := ∃ f fd, Mk K C f ∧ Fun K "__init__" qual st f fd
theorem ini_mk {K : PySem.W.Frag} {C : Addr} {qual : Str} {st : Stmt} {f : Addr} {oc : Value} {od an : Option Addr} {osl : Array (Option Value)} {kV doc pm cdv ct : Value} (a : PySem.W.findIn K (.ref C) "__init__" = some (some (.ref f)))
    (l : K.lookup f = some ⟨oc, od, .func (PySem.W.fnOf "__init__" qual (defArgs st) (defBody st) (defScope st) .none kV doc pm an cdv ct), osl⟩) (c : PySem.W.codeIn K cdv qual = true) (k : PySem.W.keepIn K (.ref f) = true)
    (m : PySem.W.makesIn K C = true) (i : PySem.W.isFn K (.ref f) = true) (k2 : PySem.W.keepIn K (.ref C) = true) : IniIn K C qual st := ⟨f, _, ⟨m, a, i, k2⟩, fun_mk l c k⟩
theorem canM_of {P : Program} {w : World} {K : PySem.W.Frag} {mg : Str → Option Value} {base : Heap} {k : Nat} {x : Str} {C : Addr} {qual : Str} {st : Stmt} {ps : List Str} {sp : Sp} (hm : mg x = some (.ref C)) (D : IniIn K C qual st)
    (hb : ∀ (kV doc pm : Value) (an : Option Addr) (cdv ct : Value) (us : List Value), us.length = ps.length → bindArgs (PySem.W.fnOf "__init__" qual (defArgs st) (defBody st) (defScope st) .none kV doc pm an cdv ct) ⟨us, []⟩ = pure (ps.zip us))
    (ok : ∀ f fd, Fun K "__init__" qual st f fd → FnOk P w K mg base CX0 k f fd ps sp) : CanM P w K mg base k x C ps sp := by
  obtain ⟨f, fd, M, F⟩ := D
  exact ⟨f, fd, hm, M, F.binds hb, ok f fd F⟩
def MthIn (K : PySem.W.Frag) (C : Addr) (m qual : Str) (st : Stmt) : Prop := ∃ f fd, Meth K C m f ∧ Fun K m qual st f fd
theorem mth_mk {K : PySem.W.Frag} {C : Addr} {m qual : Str} {st : Stmt} {f : Addr} {oc : Value} {od an : Option Addr} {osl : Array (Option Value)} {kV doc pm cdv ct : Value} (a : PySem.W.findIn K (.ref C) m = some (some (.ref f)))
    (l : K.lookup f = some ⟨oc, od, .func (PySem.W.fnOf m qual (defArgs st) (defBody st) (defScope st) .none kV doc pm an cdv ct), osl⟩) (c : PySem.W.codeIn K cdv qual = true) (k : PySem.W.keepIn K (.ref f) = true)
    (i : PySem.W.isFn K (.ref f) = true) : MthIn K C m qual st := ⟨f, _, ⟨a, i, k⟩, fun_mk l c k⟩
theorem canMt_of {P : Program} {w : World} {K : PySem.W.Frag} {mg : Str → Option Value} {base : Heap} {k : Nat} {C : Addr} {m qual : Str} {st : Stmt} {ps : List Str} {sp : Sp} (D : MthIn K C m qual st)
    (hb : ∀ (kV doc pm : Value) (an : Option Addr) (cdv ct : Value) (us : List Value), us.length = ps.length → bindArgs (PySem.W.fnOf m qual (defArgs st) (defBody st) (defScope st) .none kV doc pm an cdv ct) ⟨us, []⟩ = pure (ps.zip us))
    (ok : ∀ f fd, Fun K m qual st f fd → FnOk P w K mg base CX0 k f fd ps sp) : CanMt P w K mg base k C m ps sp := by
  obtain ⟨f, fd, M, F⟩ := D
  exact ⟨f, fd, M, F.binds hb, ok f fd F⟩
theorem all_mk {P : Program} {w : World} {K : PySem.W.Frag} {h : Heap} {mg : Str → Option Value} {fa : Addr} (X : K.In h) (G : h.Ns mainGlobals mg) (hfa : mg "law" = some (.ref fa)) (B : Blt mg) (T : Kit K) (O1 : Oth K w mg) {cn : Addr} (ncn : PySem.W.nsIn K mainGlobals "BadWeighing" = some (some (.ref cn))) (xcn : PySem.W.excIn K cn vMro "ValueError.__new__" = true) (xcc : PySem.W.exmOne K (.ref cn) (.ref cn) = some true)
    {e : AA} (An : Anss K mg e) (IH : IniIn K e.heavy "Heavy.__init__" (inClass (top 24) 0)) (IL : IniIn K e.light "Light.__init__" (inClass (top 25) 0)) (IO : IniIn K e.opn "Open.__init__" (inClass (top 27) 0))
    (IsH : MthIn K e.heavy "shows" "Heavy.shows" (inClass (top 24) 1)) (IsL : MthIn K e.light "shows" "Light.shows" (inClass (top 25) 1)) (IsN : MthIn K e.nothing "shows" "Nothing.shows" (inClass (top 26) 0)) (IsO : MthIn K e.opn "shows" "Open.shows" (inClass (top 27) 1))
    (Ak : AnsK K e)
    (Dis_whole : DefIn K "is_whole" (top 5))
    (Dcheck_marks : DefIn K "check_marks" (top 6))
    (Dcheck_side : DefIn K "check_side" (top 7))
    (Dcheck_weighing : DefIn K "check_weighing" (top 8))
    (Dcases : DefIn K "cases" (top 10))
    (Dmost_cases : DefIn K "most_cases" (top 11))
    (Dfewest : DefIn K "fewest" (top 12))
    (Dplaced : DefIn K "placed" (top 15))
    (Doutcome_by : DefIn K "outcome_by" (top 16))
    (Dmay_be_heavy : DefIn K "may_be_heavy" (top 17))
    (Dmay_be_light : DefIn K "may_be_light" (top 18))
    (Dmay_all_be_good : DefIn K "may_all_be_good" (top 19))
    (Djudged : DefIn K "judged" (top 20))
    (Dis_the_one_case : DefIn K "is_the_one_case" (top 22))
    (Dcoins_with : DefIn K "coins_with" (top 29))
    (Dpaired_first : DefIn K "paired_first" (top 30))
    (Dkept_off : DefIn K "kept_off" (top 31))
    (Dfirst_weighing : DefIn K "first_weighing" (top 32))
    (Dtold : DefIn K "told" (top 33))
    (D_law_cell_at : DefIn K "_law_cell_at" (top 35))
    (D_law_draw : DefIn K "_law_draw" (top 36))
    (D_law_marks : DefIn K "_law_marks" (top 37))
    (D_law_cases : DefIn K "_law_cases" (top 38))
    (D_law_weighing : DefIn K "_law_weighing" (top 39))
    (D_law_behind : DefIn K "_law_behind" (top 40))
    (D_law_left : DefIn K "_law_left" (top 41))
    (D_law_power : DefIn K "_law_power" (top 42))
    (D_law_whole : DefIn K "_law_whole" (top 43))
    (D_law_open : DefIn K "_law_open" (top 44))
    (D_law_due : DefIn K "_law_due" (top 45))
    (D_law_right : DefIn K "_law_right" (top 46))
    (Dlaw : DefIn K "law" (top 47))
    : ∃ fd : FuncData, (∀ (s : Shared) (v : Value), BindsTo s fd ⟨[v], []⟩ [("_law_script", v)]) ∧ ∀ base : Heap, K.In base → base.Ns mainGlobals mg → FnOk P w K mg base CX0 7 fa fd ["_law_script"] (spLaw K) := by
  have mcn := PySem.W.mg_of X G ncn
  obtain ⟨f, fd, a, F0⟩ := Dlaw
  have e0 := hfa.symm.trans (PySem.W.mg_of X G a)
  cases e0
  obtain ⟨oc, od, kV, doc, pm, an, cdv, ct, osl, rfl, lk, hcd⟩ := id F0.ex
  refine ⟨PySem.W.fnOf "law" "law" (defArgs (top 47)) (defBody (top 47)) (defScope (top 47)) .none kV doc pm an cdv ct, fun s v => .of_eq rfl, fun base _ _ => ?_⟩
  have m_Heavy : CanM P w K mg base 1 "Heavy" e.heavy ["self", "coin"] (spIni e.heavy) := canM_of An.m_Heavy IH (fun _ _ _ _ _ _ us hl => match us, hl with | [_, _], _ => rfl) fun f fd F => ok_iniH F An.cH.cl An.nHc
  have m_Light : CanM P w K mg base 1 "Light" e.light ["self", "coin"] (spIni e.light) := canM_of An.m_Light IL (fun _ _ _ _ _ _ us hl => match us, hl with | [_, _], _ => rfl) fun f fd F => ok_iniL F An.cL.cl An.nLc
  have m_Open : CanM P w K mg base 1 "Open" e.opn ["self", "left", "right", "many"] (spIniO e.opn) := canM_of An.m_Open IO (fun _ _ _ _ _ _ us hl => match us, hl with | [_, _, _, _], _ => rfl) fun f fd F => ok_iniO F B An.cO.cl An.nOl An.nOr An.nOm
  have c_is_whole : Can P w K mg base CX0 1 "is_whole" ["value"] spWhole := can_of X G Dis_whole (fun _ _ _ _ _ _ us hl => match us, hl with | [_], _ => rfl) fun f fd F => ok_whole F B T
  have c_check_marks : Can P w K mg base CX0 1 "check_marks" ["marks"] spCM := can_of X G Dcheck_marks (fun _ _ _ _ _ _ us hl => match us, hl with | [_], _ => rfl) fun f fd F => ok_cm F B T
  have c_check_side : Can P w K mg base (CXE false P w) 2 "check_side" ["highest", "side"] (spSdE cn) := can_of X G Dcheck_side (fun _ _ _ _ _ _ us hl => match us, hl with | [_, _], _ => rfl) fun f fd F => ok_check_side F B T mcn xcn c_is_whole
  have c_check_weighing : Can P w K mg base (CXE false P w) 3 "check_weighing" ["highest", "left", "right"] (spCwE cn) := can_of X G Dcheck_weighing (fun _ _ _ _ _ _ us hl => match us, hl with | [_, _, _], _ => rfl) fun f fd F => ok_check_weighing F B mcn xcn c_check_side
  have c_cases : Can P w K mg base CX0 2 "cases" ["marks"] spCases := can_of X G Dcases (fun _ _ _ _ _ _ us hl => match us, hl with | [_], _ => rfl) fun f fd F => ok_cases F c_check_marks
  have c_most_cases : Can P w K mg base CX0 1 "most_cases" ["weighings"] spMost := can_of X G Dmost_cases (fun _ _ _ _ _ _ us hl => match us, hl with | [_], _ => rfl) fun f fd F => ok_most F B
  have c_fewest : Can P w K mg base CX0 3 "fewest" ["marks"] spFew := can_of X G Dfewest (fun _ _ _ _ _ _ us hl => match us, hl with | [_], _ => rfl) fun f fd F => ok_few F c_cases c_most_cases
  have c_placed : Can P w K mg base CX0 1 "placed" ["left", "right"] spPl := can_of X G Dplaced (fun _ _ _ _ _ _ us hl => match us, hl with | [_, _], _ => rfl) fun f fd F => ok_pl F
  have c_outcome_by : Can P w K mg base CX0 1 "outcome_by" ["place", "heavy"] spOut := can_of X G Doutcome_by (fun _ _ _ _ _ _ us hl => match us, hl with | [_, _], _ => rfl) fun f fd F => ok_out F O1
  have c_may_be_heavy : Can P w K mg base CX0 1 "may_be_heavy" ["sign"] spMayH := can_of X G Dmay_be_heavy (fun _ _ _ _ _ _ us hl => match us, hl with | [_], _ => rfl) fun f fd F => ok_mayH F
  have c_may_be_light : Can P w K mg base CX0 1 "may_be_light" ["sign"] spMayL := can_of X G Dmay_be_light (fun _ _ _ _ _ _ us hl => match us, hl with | [_], _ => rfl) fun f fd F => ok_mayL F
  have c_may_all_be_good : Can P w K mg base CX0 1 "may_all_be_good" ["marks"] spAllG := can_of X G Dmay_all_be_good (fun _ _ _ _ _ _ us hl => match us, hl with | [_], _ => rfl) fun f fd F => ok_allG F
  have c_judged : Can P w K mg base (CXE false P w) 4 "judged" ["marks", "left", "right"] (spJd cn) := can_of X G Djudged (fun _ _ _ _ _ _ us hl => match us, hl with | [_, _, _], _ => rfl) fun f fd F => ok_jd F B c_check_marks c_check_weighing c_placed c_may_be_heavy c_may_be_light c_outcome_by c_may_all_be_good
  have c_is_the_one_case : Can P w K mg base CX0 3 "is_the_one_case" ["marks", "coin", "sign"] spOne := can_of X G Dis_the_one_case (fun _ _ _ _ _ _ us hl => match us, hl with | [_, _, _], _ => rfl) fun f fd F => ok_one F B c_cases c_is_whole
  have h_Heavy : CanMt P w K mg base 4 e.heavy "shows" ["self", "marks"] (spShC e.heavy 104) := canMt_of IsH (fun _ _ _ _ _ _ us hl => match us, hl with | [_, _], _ => rfl) fun f fd F => ok_shH F An.cH.cl An.nHc c_is_the_one_case
  have h_Light : CanMt P w K mg base 4 e.light "shows" ["self", "marks"] (spShC e.light 108) := canMt_of IsL (fun _ _ _ _ _ _ us hl => match us, hl with | [_, _], _ => rfl) fun f fd F => ok_shL F An.cL.cl An.nLc c_is_the_one_case
  have h_Nothing : CanMt P w K mg base 3 e.nothing "shows" ["self", "marks"] spShN := canMt_of IsN (fun _ _ _ _ _ _ us hl => match us, hl with | [_, _], _ => rfl) fun f fd F => ok_shN F c_cases c_may_all_be_good
  have h_Open : CanMt P w K mg base 5 e.opn "shows" ["self", "marks"] (spShO e.opn) := canMt_of IsO (fun _ _ _ _ _ _ us hl => match us, hl with | [_, _], _ => rfl) fun f fd F => ok_shO F B An.cO.cl An.nOl An.nOr An.nOm mcn xcc c_cases c_is_whole c_fewest c_judged c_most_cases
  have c_coins_with : Can P w K mg base CX0 1 "coins_with" ["marks", "wanted"] spCoins := can_of X G Dcoins_with (fun _ _ _ _ _ _ us hl => match us, hl with | [_, _], _ => rfl) fun f fd F => ok_coins F B
  have c_paired_first : Can P w K mg base CX0 2 "paired_first" ["marks"] spPf := can_of X G Dpaired_first (fun _ _ _ _ _ _ us hl => match us, hl with | [_], _ => rfl) fun f fd F => ok_pf F B c_coins_with
  have c_kept_off : Can P w K mg base CX0 1 "kept_off" ["marks", "most"] spKept := can_of X G Dkept_off (fun _ _ _ _ _ _ us hl => match us, hl with | [_, _], _ => rfl) fun f fd F => ok_kept F
  have c_first_weighing : Can P w K mg base CX0 3 "first_weighing" ["marks", "many"] (spFirst e) := can_of X G Dfirst_weighing (fun _ _ _ _ _ _ us hl => match us, hl with | [_, _], _ => rfl) fun f fd F => ok_first F B c_paired_first c_kept_off c_most_cases m_Open
  have c_told : Can P w K mg base CX0 4 "told" ["marks"] (spTd e) := can_of X G Dtold (fun _ _ _ _ _ _ us hl => match us, hl with | [_], _ => rfl) fun f fd F => ok_td F An c_fewest c_first_weighing m_Heavy m_Light
  have c__law_cell_at : Can P w K mg base CX0 1 "_law_cell_at" ["_law_script", "_law_k"] (spCell K) := can_of X G D_law_cell_at (fun _ _ _ _ _ _ us hl => match us, hl with | [_, _], _ => rfl) fun f fd F => ok_cell F B
  have c__law_draw : Can P w K mg base CX0 1 "_law_draw" ["_law_cell", "_law_k", "_law_many"] spDraw := can_of X G D_law_draw (fun _ _ _ _ _ _ us hl => match us, hl with | [_, _, _], _ => rfl) fun f fd F => ok_draw F
  have c__law_marks : Can P w K mg base CX0 2 "_law_marks" ["_law_script"] (spMarks K) := can_of X G D_law_marks (fun _ _ _ _ _ _ us hl => match us, hl with | [_], _ => rfl) fun f fd F => ok_marks F B c__law_cell_at c__law_draw
  have c__law_cases : Can P w K mg base CX0 1 "_law_cases" ["_law_marks_here"] spLCs := can_of X G D_law_cases (fun _ _ _ _ _ _ us hl => match us, hl with | [_], _ => rfl) fun f fd F => ok_lcs F
  have c__law_weighing : Can P w K mg base CX0 1 "_law_weighing" ["_law_coins", "_law_left_here", "_law_right_here"] spWg := can_of X G D_law_weighing (fun _ _ _ _ _ _ us hl => match us, hl with | [_, _, _], _ => rfl) fun f fd F => ok_wg F B
  have c__law_behind : Can P w K mg base CX0 1 "_law_behind" ["_law_marks_here", "_law_left_here", "_law_right_here", "_law_outcome"] spLB := can_of X G D_law_behind (fun _ _ _ _ _ _ us hl => match us, hl with | [_, _, _, _], _ => rfl) fun f fd F => ok_lb F B
  have c__law_left : Can P w K mg base CX0 2 "_law_left" ["_law_marks_here", "_law_left_here", "_law_right_here"] spLL := can_of X G D_law_left (fun _ _ _ _ _ _ us hl => match us, hl with | [_, _, _], _ => rfl) fun f fd F => ok_ll F B c__law_behind
  have c__law_power : Can P w K mg base CX0 1 "_law_power" ["_law_many"] spMost := can_of X G D_law_power (fun _ _ _ _ _ _ us hl => match us, hl with | [_], _ => rfl) fun f fd F => ok_pow F B
  have c__law_whole : Can P w K mg base CX0 1 "_law_whole" ["_law_number"] spWhole := can_of X G D_law_whole (fun _ _ _ _ _ _ us hl => match us, hl with | [_], _ => rfl) fun f fd F => ok_lwhole F B T
  have c__law_open : Can P w K mg base CX0 3 "_law_open" ["_law_marks_here", "_law_left_here", "_law_right_here", "_law_many"] spLOp := can_of X G D_law_open (fun _ _ _ _ _ _ us hl => match us, hl with | [_, _, _, _], _ => rfl) fun f fd F => ok_lop F B c__law_cases c__law_weighing c__law_power c__law_left
  have c__law_due : Can P w K mg base CX0 4 "_law_due" ["_law_marks_here", "_law_found"] (spDue e) := can_of X G D_law_due (fun _ _ _ _ _ _ us hl => match us, hl with | [_, _], _ => rfl) fun f fd F => ok_due F B An Ak c__law_cases c__law_open
  have c__law_right : Can P w K mg base CX0 6 "_law_right" ["_law_marks_here"] spRight := can_of X G D_law_right (fun _ _ _ _ _ _ us hl => match us, hl with | [_], _ => rfl) fun f fd F => ok_right F B An Ak c_told c__law_whole c__law_due c_cases c__law_cases c_fewest h_Heavy h_Light h_Nothing h_Open
  exact ok_law F0 B c__law_cell_at c__law_draw c__law_marks c__law_right
end Ks
end
section
namespace Ks
open PySem L2 Mir
theorem walk {l : PySem.W.OpenLaw} {q : Program} {loose : List Str} {XP : (Str → Option Value) → Heap → Prop} {YP : World → Heap → Prop} {d : DefRec} {K : Params → PySem.W.Frag} (hn : l.most = some 63) (hdf : d.params.defaults = [])
    (hY : ∀ (w : World) (h : Heap), YP w h → (K w.params).In h)
    (F : ∀ (w : World) (mg : Str → Option Value) (fa : Addr) (h : Heap), (K w.params).In h → h.Ns mainGlobals mg → mg d.name = some (.ref fa) →
      ∃ fd : FuncData, (∀ (s : Shared) (u : Value), BindsTo s fd ⟨[u], []⟩ [("_law_script", u)]) ∧ ∀ base : Heap, (K w.params).In base → base.Ns mainGlobals mg → FnOk l.prog w (K w.params) mg base CX0 7 fa fd ["_law_script"] (spLaw (K w.params))) :
    PySem.W.WalkO q loose XP YP l.row.toRowW d [] (fun f vs => PySem.call f vs) :=
  L2.walk_of (n := 63) (k := 7) (x := "_law_script") (CX := fun _ => CX0) (sp := fun w => spLaw (K w.params)) hn (by decide) hdf ⟨rfl, by decide, by decide⟩ hY F (fun _ _ a ns hl _ hS => ⟨a, ns, rfl, hS, hl, fun _ _ => rfl⟩) fun _ _ _ _ _ z => z
end Ks
open PySem PySem.W PyProof.Rows
set_option maxRecDepth 100000 in
set_option maxHeartbeats 0 in
theorem PySem.Challenge.cw_oddcoin_k01_whole_told_holds : PySem.Challenge.rw_oddcoin_k01_whole_told.Holds := by
  w_on
  refine holds_law (by decide +kernel) fun said => ?_
  refine holds_open (q := Ks.view) (loose := ["OTHER"]) (Xt := fun s => xlAt Ks.view [] s && recOk (RowW.records (OpenRow.toRowW (PySem.Challenge.rw_oddcoin_k01_whole_told).row)) s) (XP := XL Ks.view []) (Yf := Hook.obs (kHook Ks.KK Ks.keysK Ks.keysK_is)) (Ya := Hook.val (kHook Ks.KK Ks.keysK Ks.keysK_is)) (YP := Hook.says (kHook Ks.KK Ks.keysK Ks.keysK_is)) (N := 6092) ?hl (Hook.of (kHook Ks.KK Ks.keysK Ks.keysK_is)) (Hook.keeps (kHook Ks.KK Ks.keysK Ks.keysK_is)) (fun s e => xl_of s (Bool.and_eq_true_iff.mp e).1) XL.keeps (by rfl) (by rfl) (by rfl) (fun s e => recFacts_of (Bool.and_eq_true_iff.mp e).2) (by rfl) (by first | assumption | decide +kernel) (by decide +kernel) ⟨rfl, rfl, rfl, rfl, rfl, by decide +kernel⟩ ?hw ?hc
  case hl => exact Ks.leftO
  case hw => w_witness2
  k_fill
  refine Ks.walk (l := PySem.Challenge.rw_oddcoin_k01_whole_told) rfl rfl (fun w h Y => PySem.W.kIn_of Y) ?F
  case F =>
    intro w mg fa h KX G hmg
    refine' Ks.all_mk KX G hmg ?B ?T ?O1 ?ncn ?xcn ?xcc ?An ?IH ?IL ?IO ?IsH ?IsL ?IsN ?IsO ?Ak ?Dis_whole ?Dcheck_marks ?Dcheck_side ?Dcheck_weighing ?Dcases ?Dmost_cases ?Dfewest ?Dplaced ?Doutcome_by ?Dmay_be_heavy ?Dmay_be_light ?Dmay_all_be_good ?Djudged ?Dis_the_one_case ?Dcoins_with ?Dpaired_first ?Dkept_off ?Dfirst_weighing ?Dtold ?D_law_cell_at ?D_law_draw ?D_law_marks ?D_law_cases ?D_law_weighing ?D_law_behind ?D_law_left ?D_law_power ?D_law_whole ?D_law_open ?D_law_due ?D_law_right ?Dlaw
    case B =>
      refine' ⟨PySem.W.mg_none_of KX G ?b0, PySem.W.mg_none_of KX G ?b1, PySem.W.mg_none_of KX G ?b2, PySem.W.mg_none_of KX G ?b3, PySem.W.mg_none_of KX G ?b4, PySem.W.mg_none_of KX G ?b5, PySem.W.mg_none_of KX G ?b6, PySem.W.mg_none_of KX G ?b7, PySem.W.mg_none_of KX G ?b8, PySem.W.mg_none_of KX G ?b9, PySem.W.mg_none_of KX G ?b10, PySem.W.mg_none_of KX G ?b11, PySem.W.mg_none_of KX G ?b12, PySem.W.mg_none_of KX G ?b13, PySem.W.mg_none_of KX G ?b14⟩
      (case b0 => k_is)
      (case b1 => k_is)
      (case b2 => k_is)
      (case b3 => k_is)
      (case b4 => k_is)
      (case b5 => k_is)
      (case b6 => k_is)
      (case b7 => k_is)
      (case b8 => k_is)
      (case b9 => k_is)
      (case b10 => k_is)
      (case b11 => k_is)
      (case b12 => k_is)
      (case b13 => k_is)
      (case b14 => k_is)
    case T => refine' ⟨?t1, ?t2, ?t3, ?t4, ?t5, ?t6⟩ <;> kernel_rfl
    case O1 =>
      refine' Ks.oth_mk KX G ?a ?l ?b1 ?b2 ?b3 ?kl
      (case a => k_is); (case l => k_is); (case b1 => k_is); (case b2 => k_is); (case b3 => k_is)
      exact ⟨⟨_, _, rfl, rfl⟩, ⟨_, _, rfl, rfl⟩, ⟨_, _, rfl, rfl⟩, trivial⟩
    case ncn => k_is
    case xcn => kernel_rfl
    case xcc => kernel_rfl
    case An =>
      refine' Ks.anss_mk KX G ?n0 ?n1 ?n2 ?n3 ?n4 ?sp ?tk ?nd ?b1 ?b2 ?b3 ?b4 ?f1 ?f2 ?f4 ?m3 ?kt
      (case n0 => k_is); (case n1 => k_is); (case n2 => k_is); (case n3 => k_is); (case n4 => k_is); (case sp => k_is); (case tk => k_is)
      (case nd => decide)
      (case b1 => kernel_rfl); (case b2 => kernel_rfl); (case b3 => kernel_rfl); (case b4 => kernel_rfl); (case f1 => kernel_rfl); (case f2 => kernel_rfl); (case f4 => kernel_rfl); (case m3 => kernel_rfl); (case kt => kernel_rfl)
    case IH =>
      refine' Ks.ini_mk ?a ?l ?c ?k ?m ?i ?k2
      (case a => k_is); (case l => k_is); (case c => k_is); (case k => k_is)
      (case m => kernel_rfl); (case i => kernel_rfl); (case k2 => k_is)
    case IL =>
      refine' Ks.ini_mk ?a ?l ?c ?k ?m ?i ?k2
      (case a => k_is); (case l => k_is); (case c => k_is); (case k => k_is)
      (case m => kernel_rfl); (case i => kernel_rfl); (case k2 => k_is)
    case IO =>
      refine' Ks.ini_mk ?a ?l ?c ?k ?m ?i ?k2
      (case a => k_is); (case l => k_is); (case c => k_is); (case k => k_is)
      (case m => kernel_rfl); (case i => kernel_rfl); (case k2 => k_is)
    case Ak => refine' ⟨?a1, ?a2, ?a3, ?a4⟩ <;> kernel_rfl
    case IsH =>
      refine' Ks.mth_mk ?a ?l ?c ?k ?i
      (case a => k_is); (case l => k_is); (case c => k_is); (case k => k_is)
      (case i => kernel_rfl)
    case IsL =>
      refine' Ks.mth_mk ?a ?l ?c ?k ?i
      (case a => k_is); (case l => k_is); (case c => k_is); (case k => k_is)
      (case i => kernel_rfl)
    case IsN =>
      refine' Ks.mth_mk ?a ?l ?c ?k ?i
      (case a => k_is); (case l => k_is); (case c => k_is); (case k => k_is)
      (case i => kernel_rfl)
    case IsO =>
      refine' Ks.mth_mk ?a ?l ?c ?k ?i
      (case a => k_is); (case l => k_is); (case c => k_is); (case k => k_is)
      (case i => kernel_rfl)
    case Dis_whole => refine' Ks.def_mk ?a ?l ?c ?k; (case a => k_is); (case l => k_is); (case c => k_is); (case k => k_is)
    case Dcheck_marks => refine' Ks.def_mk ?a ?l ?c ?k; (case a => k_is); (case l => k_is); (case c => k_is); (case k => k_is)
    case Dcheck_side => refine' Ks.def_mk ?a ?l ?c ?k; (case a => k_is); (case l => k_is); (case c => k_is); (case k => k_is)
    case Dcheck_weighing => refine' Ks.def_mk ?a ?l ?c ?k; (case a => k_is); (case l => k_is); (case c => k_is); (case k => k_is)
    case Dcases => refine' Ks.def_mk ?a ?l ?c ?k; (case a => k_is); (case l => k_is); (case c => k_is); (case k => k_is)
    case Dmost_cases => refine' Ks.def_mk ?a ?l ?c ?k; (case a => k_is); (case l => k_is); (case c => k_is); (case k => k_is)
    case Dfewest => refine' Ks.def_mk ?a ?l ?c ?k; (case a => k_is); (case l => k_is); (case c => k_is); (case k => k_is)
    case Dplaced => refine' Ks.def_mk ?a ?l ?c ?k; (case a => k_is); (case l => k_is); (case c => k_is); (case k => k_is)
    case Doutcome_by => refine' Ks.def_mk ?a ?l ?c ?k; (case a => k_is); (case l => k_is); (case c => k_is); (case k => k_is)
    case Dmay_be_heavy => refine' Ks.def_mk ?a ?l ?c ?k; (case a => k_is); (case l => k_is); (case c => k_is); (case k => k_is)
    case Dmay_be_light => refine' Ks.def_mk ?a ?l ?c ?k; (case a => k_is); (case l => k_is); (case c => k_is); (case k => k_is)
    case Dmay_all_be_good => refine' Ks.def_mk ?a ?l ?c ?k; (case a => k_is); (case l => k_is); (case c => k_is); (case k => k_is)
    case Djudged => refine' Ks.def_mk ?a ?l ?c ?k; (case a => k_is); (case l => k_is); (case c => k_is); (case k => k_is)
    case Dis_the_one_case => refine' Ks.def_mk ?a ?l ?c ?k; (case a => k_is); (case l => k_is); (case c => k_is); (case k => k_is)
    case Dcoins_with => refine' Ks.def_mk ?a ?l ?c ?k; (case a => k_is); (case l => k_is); (case c => k_is); (case k => k_is)
    case Dpaired_first => refine' Ks.def_mk ?a ?l ?c ?k; (case a => k_is); (case l => k_is); (case c => k_is); (case k => k_is)
    case Dkept_off => refine' Ks.def_mk ?a ?l ?c ?k; (case a => k_is); (case l => k_is); (case c => k_is); (case k => k_is)
    case Dfirst_weighing => refine' Ks.def_mk ?a ?l ?c ?k; (case a => k_is); (case l => k_is); (case c => k_is); (case k => k_is)
    case Dtold => refine' Ks.def_mk ?a ?l ?c ?k; (case a => k_is); (case l => k_is); (case c => k_is); (case k => k_is)
    case D_law_cell_at => refine' Ks.def_mk ?a ?l ?c ?k; (case a => k_is); (case l => k_is); (case c => k_is); (case k => k_is)
    case D_law_draw => refine' Ks.def_mk ?a ?l ?c ?k; (case a => k_is); (case l => k_is); (case c => k_is); (case k => k_is)
    case D_law_marks => refine' Ks.def_mk ?a ?l ?c ?k; (case a => k_is); (case l => k_is); (case c => k_is); (case k => k_is)
    case D_law_cases => refine' Ks.def_mk ?a ?l ?c ?k; (case a => k_is); (case l => k_is); (case c => k_is); (case k => k_is)
    case D_law_weighing => refine' Ks.def_mk ?a ?l ?c ?k; (case a => k_is); (case l => k_is); (case c => k_is); (case k => k_is)
    case D_law_behind => refine' Ks.def_mk ?a ?l ?c ?k; (case a => k_is); (case l => k_is); (case c => k_is); (case k => k_is)
    case D_law_left => refine' Ks.def_mk ?a ?l ?c ?k; (case a => k_is); (case l => k_is); (case c => k_is); (case k => k_is)
    case D_law_power => refine' Ks.def_mk ?a ?l ?c ?k; (case a => k_is); (case l => k_is); (case c => k_is); (case k => k_is)
    case D_law_whole => refine' Ks.def_mk ?a ?l ?c ?k; (case a => k_is); (case l => k_is); (case c => k_is); (case k => k_is)
    case D_law_open => refine' Ks.def_mk ?a ?l ?c ?k; (case a => k_is); (case l => k_is); (case c => k_is); (case k => k_is)
    case D_law_due => refine' Ks.def_mk ?a ?l ?c ?k; (case a => k_is); (case l => k_is); (case c => k_is); (case k => k_is)
    case D_law_right => refine' Ks.def_mk ?a ?l ?c ?k; (case a => k_is); (case l => k_is); (case c => k_is); (case k => k_is)
    case Dlaw => refine' Ks.def_mk ?a ?l ?c ?k; (case a => k_is); (case l => k_is); (case c => k_is); (case k => k_is)
end
