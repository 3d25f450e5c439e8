import PyProof.Rows.All
import Wide.All
import OpenK.AllK
import Wide.FinOn
import Lean
import PyProof.EqAt
import PyProof.EqKinds
import PyProof.TupleCall
import PyProof.NeKinds
import PyProof.Rows.SetFrom
import PyProof.WalksMore
import KE.KDictSum
import PyProof.AttrMissHeap
import PyProof.ConsumeWalk
import PyProof.ZipIter
import PyProof.Rows.TupAdd
import PyProof.Rows.IntBool
import PyProof.SliceStr2
import PyProof.StrBlockI
import PyProof.P3Eq
import PyProof.NeData
import PyProof.FString5
import PySem.Challenge.RW_mannerports_k08_stands_and_moments_by_ki
set_option Elab.async false
set_option linter.all false
set_option maxRecDepth 100000
set_option maxHeartbeats 4000001
namespace L2
open PySem PySem.Spec PyProof.Rows
abbrev Key := Sum Int Str
def keyIs : Key → Value → Bool
  | .inl k, v => Value.isInt k v
  | .inr x, v => Value.isStrOf x v
def keyH (w : World) : Key → Int
  | .inl k => hashInt k
  | .inr x => hashStr w x
theorem keyIs_shape : ∀ {k : Key} {v : Value}, keyIs k v = true → (∃ i t, k = Sum.inl i ∧ v = Value.int i t) ∨ (∃ x t, k = Sum.inr x ∧ v = Value.str x t)
  | .inl i, v, h => by
    obtain ⟨t, e⟩ := Value.isInt_shape (k := i) (v := v) h
    exact .inl ⟨i, t, rfl, e⟩
  | .inr x, v, h => by
    obtain ⟨t, e⟩ := Value.isStrOf_shape (x := x) (v := v) h
    exact .inr ⟨x, t, rfl, e⟩
theorem key_ll (a b : Int) : decide ((Sum.inl a : Key) = Sum.inl b) = (a == b) := by
  by_cases e : a = b
  · subst e; simp
  · have h : ¬ (Sum.inl a : Key) = Sum.inl b := fun q => e (Sum.inl.inj q)
    rw [decide_eq_false h]
    exact (beq_eq_false_iff_ne.mpr e).symm
theorem key_rr (a b : Str) : decide ((Sum.inr a : Key) = Sum.inr b) = decide (a = b) := by
  by_cases e : a = b
  · subst e; simp
  · have h : ¬ (Sum.inr a : Key) = Sum.inr b := fun q => e (Sum.inr.inj q)
    rw [decide_eq_false h, decide_eq_false e]
theorem key_lr (a : Int) (b : Str) : decide ((Sum.inl a : Key) = Sum.inr b) = false := decide_eq_false (fun q => nomatch q)
theorem key_rl (a : Str) (b : Int) : decide ((Sum.inr a : Key) = Sum.inl b) = false := decide_eq_false (fun q => nomatch q)
def mixKind (prog : Program) (w : World) : PySem.KeyKind prog w Key where
  is := keyIs
  hash := keyH w
  inj := fun v a b ha hb => by
    rcases keyIs_shape ha with ⟨i, t, rfl, rfl⟩ | ⟨x, t, rfl, rfl⟩
    · rcases keyIs_shape hb with ⟨j, u, rfl, e⟩ | ⟨y, u, rfl, e⟩
      · injection e with e1 _; rw [e1]
      · exact nomatch e
    · rcases keyIs_shape hb with ⟨j, u, rfl, e⟩ | ⟨y, u, rfl, e⟩
      · exact nomatch e
      · injection e with e1 _; rw [e1]
  byValue := fun k v h => by
    rcases keyIs_shape h with ⟨i, t, rfl, rfl⟩ | ⟨x, t, rfl, rfl⟩ <;> rfl
  pyHash := fun hv h => by
    rcases keyIs_shape hv with ⟨i, t, rfl, rfl⟩ | ⟨x, t, rfl, rfl⟩
    · exact wpAny_pyHash_int h
    · exact wpAny_pyHash_str h
  eqBool := fun hu hv h => by
    rcases keyIs_shape hu with ⟨i, t, rfl, rfl⟩ | ⟨x, t, rfl, rfl⟩
    · rcases keyIs_shape hv with ⟨j, u, rfl, rfl⟩ | ⟨y, u, rfl, rfl⟩
      · rw [key_ll] at h; exact wpAny_eqBool_int h
      · rw [key_lr] at h; exact SeqAt.EqAt.int_str i t y u _ _ _ _ h
    · rcases keyIs_shape hv with ⟨j, u, rfl, rfl⟩ | ⟨y, u, rfl, rfl⟩
      · rw [key_rl] at h; exact SeqAt.EqAt.str_int x t j u _ _ _ _ h
      · rw [key_rr] at h; exact wpAny_eqBool_str h
  «strs» := fun k x t v h => by
    rcases keyIs_shape h with ⟨i, u, rfl, e⟩ | ⟨y, u, rfl, e⟩
    · exact nomatch e
    · injection e with e1 _
      subst e1
      cases v <;> rfl
end L2
namespace L2
open PySem PySem.Spec PyProof.Rows
inductive V where
  | non | bl (b : Bool) | int (i : Int) | str (x : Str) | byt (b : Array UInt8) | flt (b : UInt64) | ref (a : Addr) | ty (n : String)
  deriving DecidableEq
def RelV : V → Value → Prop
  | .non, u => u = Value.none
  | .bl b, u => u = Value.bool b
  | .int i, u => ∃ t, u = Value.int i t
  | .str x, u => ∃ t, u = Value.str x t
  | .byt b, u => ∃ t, u = Value.bytes b t
  | .flt b, u => ∃ t, u = Value.float b t
  | .ref a, u => u = Value.ref a
  | .ty n, u => u = Value.type n
abbrev Vals : List V → List Value → Prop := Paired RelV
theorem Vals.length {xs : List V} {us : List Value} (r : Vals xs us) : xs.length = us.length := Paired.length r
theorem Vals.get : ∀ {xs : List V} {us : List Value} {i : Nat} {x : V}, Vals xs us → xs[i]? = some x → ∃ u, us[i]? = some u ∧ RelV x u
  | _, _, _, _, .nil, e => by simp at e
  | _, _, 0, _, .cons r _, e => by simp at e; subst e; exact ⟨_, rfl, r⟩
  | _, _, i + 1, x, .cons _ t, e => by
    obtain ⟨u, h1, h2⟩ := Vals.get (i := i) (x := x) t (by simpa using e)
    exact ⟨u, by simpa using h1, h2⟩
theorem Vals.set {x : V} {u : Value} (r : RelV x u) : ∀ {xs : List V} {us : List Value} (i : Nat), Vals xs us → Vals (xs.set i x) (us.set i u)
  | _, _, _, .nil => .nil
  | _, _, 0, .cons _ t => .cons r t
  | _, _, i + 1, .cons q t => .cons q (Vals.set r i t)
theorem Vals.append : ∀ {xs ys : List V} {us ws : List Value}, Vals xs us → Vals ys ws → Vals (xs ++ ys) (us ++ ws)
  | _, _, _, _, .nil, s => s
  | _, _, _, _, .cons r t, s => .cons r (Vals.append t s)
theorem Vals.take : ∀ {xs : List V} {us : List Value} (n : Nat), Vals xs us → Vals (xs.take n) (us.take n)
  | _, _, 0, _ => .nil
  | _, _, _ + 1, .nil => .nil
  | _, _, n + 1, .cons r t => .cons r (Vals.take n t)
theorem Vals.drop : ∀ {xs : List V} {us : List Value} (n : Nat), Vals xs us → Vals (xs.drop n) (us.drop n)
  | _, _, 0, r => r
  | _, _, _ + 1, .nil => .nil
  | _, _, n + 1, .cons _ t => Vals.drop n t
def RelO : Option V → Option Value → Prop
  | some v, some u => RelV v u
  | none, none => True
  | _, _ => False
def KV {κ : Type} : List (κ × V) → List (κ × Value) → Prop := Paired fun (p : κ × V) (q : κ × Value) => p.1 = q.1 ∧ RelV p.2 q.2
def kV : Key → V
  | .inl i => .int i
  | .inr x => .str x
inductive HO where
  /-- a list -/
  | lst (xs : List V)
  /-- a tuple (never changes) -/
  | tup (xs : List V)
  /-- a dict whose keys are ints and texts; one whose keys are tuples of ints and texts (the empty one is both) -/
  | dK (kvs : List (Key × V)) | dT (kvs : List (List Key × V))
  /-- a set of ints: its members, its size -/
  | set (S : Int → Bool) (n : Nat)
  /-- an instance of the class at C, its dict at dx, its attributes -/
  | ins (C dx : Addr) (fs : List (Str × V))
  /-- the dict of the instance at x -/
  | own (x : Addr)
  /-- the dict of an exception -/
  | xd (fs : List (Str × V))
  /-- a bound method, f of x -/
  | met (f x : Addr)
  /-- a range object lo, lo + 1, .. below hi -/
  | rng (lo hi : Int)
  /-- a thing that is known to the object (the script; a dict while a loop walks it): read, never written while it is so -/
  | frz (o : Obj) (u : HO)
  /-- a code object's table -/
  | tbl (ps : Array Value)
  /-- any other thing, by what is true of its one object (a def of one's own: SetO a S n := HO.ext fun h => ..) -/
  | ext (φ : Heap → Prop)
abbrev Hp := Addr → Option HO
def upd (H : Hp) (a : Addr) (o : HO) : Hp := fun b => if b = a then some o else H b
theorem upd_same {H : Hp} {a : Addr} {o : HO} : upd H a o a = some o := by unfold upd; rw [if_pos rfl]
theorem upd_ne {H : Hp} {a b : Addr} {o : HO} (h : b ≠ a) : upd H a o b = H b := by unfold upd; rw [if_neg h]
theorem ne_of_none {H : Hp} {a b : Addr} {o : HO} (h : H a = some o) (h' : H b = none) : a ≠ b := by
  intro e; subst e; rw [h] at h'; cases h'
section
variable (P : Program) (w : World)
def ObjOk (H : Hp) (h : Heap) (a : Addr) : HO → Prop
  | .lst xs => xs.length ≤ sizeLine ∧ ∃ (its : List Value) (n : Nat), Vals xs its ∧ h.get? a = some { cls := .type "list", data := .seq its.toArray n }
  | .tup xs => xs.length ≤ sizeLine ∧ ∃ its : List Value, Vals xs its ∧ IsTup h a its.toArray
  | .dK kvs => kvs.length ≤ sizeLine ∧ (a == sysModules) = false ∧ ∃ vs, KV kvs vs ∧ h.DictOf (mixKind P w) a vs
  | .dT kvs => kvs.length ≤ sizeLine ∧ (a == sysModules) = false ∧ ∃ xs : List (List Key × Addr × Value),
      Paired (fun (p : List Key × V) (q : List Key × Addr × Value) => p.1 = q.1 ∧ H q.2.1 = some (.tup (p.1.map kV)) ∧ RelV p.2 q.2.2) kvs xs ∧
      ∃ o es ep, h.get? a = some o ∧ o.ExactDict ∧ o.data = .dict es ep ∧ es.toList = xs.map (entryOfKey (tupleKind (mixKind P w))) ∧ (xs.map (·.1)).Nodup
  | .set S n => h.SetOf (intKind P w) a S n
  | .ins C dx fs => H dx = some (.own a) ∧ fs.length ≤ 1000 ∧ dx ≠ a ∧ h.get? a = some (PySem.W.instObj C dx) ∧
      ∃ mA, h.Ns1 dx mA ∧ (∀ f, RelO (fs.lookup f) (mA f)) ∧ PySem.Within mA (fs.map (·.1))
  | .own _ => ∃ o, h.get? a = some o
  | .xd fs => ∃ mA, h.Ns1 a mA ∧ ∀ f, RelO (fs.lookup f) (mA f)
  | .rng lo hi => ∃ t u v, h.get? a = some { cls := .type "range", data := .fields #[.int lo t, .int hi u, .int 1 v] }
  | .frz o u => h.get? a = some o ∧ ObjOk H h a u
  | .tbl ps => h.get? a = some { cls := .none, data := .fields ps }
  | .met f x => h.get? a = some (PySem.W.methodObj (.ref f) (.ref x))
  | .ext φ => φ h ∧ (∃ o, h.get? a = some o) ∧ ∀ h1 h2 : Heap, φ h1 → (∀ o, h1.get? a = some o → h2.get? a = some o) → φ h2
def HOk (H : Hp) (h : Heap) : Prop := ∀ a o, H a = some o → ObjOk P w H h a o
end
section
variable {P : Program} {w : World} {H H' : Hp} {h h' : Heap} {a : Addr} {o : HO}
theorem ObjOk.lt (x : ObjOk P w H h a o) : a < h.objs.size := by
  cases o with
  | lst xs => obtain ⟨_, _, _, _, e⟩ := x; exact Heap.lt_size e
  | tup xs => obtain ⟨_, _, _, p⟩ := x; exact p.lt
  | dK kvs => obtain ⟨_, _, _, _, o, _, _, e, _⟩ := x; exact Heap.lt_size e
  | dT kvs => obtain ⟨_, _, _, _, o, _, _, e, _⟩ := x; exact Heap.lt_size e
  | set S n => obtain ⟨o, _, _, _, e, _⟩ := x; exact Heap.lt_size e
  | ins C dx fs => obtain ⟨_, _, _, e, _⟩ := x; exact Heap.lt_size e
  | own y => obtain ⟨_, e⟩ := x; exact Heap.lt_size e
  | xd fs => obtain ⟨_, ⟨_, _, _, e, _⟩, _⟩ := x; exact Heap.lt_size e
  | rng lo hi => obtain ⟨_, _, _, e⟩ := x; exact Heap.lt_size e
  | frz ob u => obtain ⟨e, _⟩ := x; exact Heap.lt_size e
  | tbl ps => exact Heap.lt_size (show h.get? a = some _ from x)
  | met f y => exact Heap.lt_size (show h.get? a = some _ from x)
  | ext φ => obtain ⟨_, ⟨_, e⟩, _⟩ := x; exact Heap.lt_size e
theorem Paired.mapP {α β : Type} {F G : α → β → Prop} : ∀ {l₁ : List α} {l₂ : List β}, Paired F l₁ l₂ → (∀ a b, F a b → G a b) → Paired G l₁ l₂
  | _, _, .nil, _ => .nil
  | _, _, .cons r t, f => .cons (f _ _ r) (Paired.mapP t f)
theorem ObjOk.stay (x : ObjOk P w H h a o) (k : ∀ b u, (b = a ∨ H b = some (.own a)) → h.get? b = some u → h'.get? b = some u)
    (ho : ∀ b, H b = some (.own a) → H' b = some (.own a)) (ht : ∀ b xs, H b = some (.tup xs) → H' b = some (.tup xs)) : ObjOk P w H' h' a o := by
  induction o with
  | lst xs => obtain ⟨z, its, n, r, e⟩ := x; exact ⟨z, its, n, r, k _ _ (.inl rfl) e⟩
  | tup xs => obtain ⟨z, its, r, ob, e, c⟩ := x; exact ⟨z, its, r, ob, k _ _ (.inl rfl) e, c⟩
  | dK kvs => obtain ⟨z, y, vs, r, ob, es, ep, e, c⟩ := x; exact ⟨z, y, vs, r, ob, es, ep, k _ _ (.inl rfl) e, c⟩
  | dT kvs =>
    obtain ⟨z, y, xs, r, ob, es, ep, e, c⟩ := x
    exact ⟨z, y, xs, Paired.mapP r fun p q z => ⟨z.1, ht _ _ z.2.1, z.2.2⟩, ob, es, ep, k _ _ (.inl rfl) e, c⟩
  | set S n => obtain ⟨ob, es, ep, t, e, c⟩ := x; exact ⟨ob, es, ep, t, k _ _ (.inl rfl) e, c⟩
  | ins C dx fs =>
    obtain ⟨d, z, ne, e, mA, ⟨od, es, ep, e2, c⟩, r⟩ := x
    exact ⟨ho _ d, z, ne, k _ _ (.inl rfl) e, mA, ⟨od, es, ep, k _ _ (.inr d) e2, c⟩, r⟩
  | own y => obtain ⟨ob, e⟩ := x; exact ⟨ob, k _ _ (.inl rfl) e⟩
  | xd fs => obtain ⟨mA, ⟨od, es, ep, e, c⟩, r⟩ := x; exact ⟨mA, ⟨od, es, ep, k _ _ (.inl rfl) e, c⟩, r⟩
  | rng lo hi => obtain ⟨t, u, v, e⟩ := x; exact ⟨t, u, v, k _ _ (.inl rfl) e⟩
  | frz ob u ih => obtain ⟨e, q⟩ := x; exact ⟨k _ _ (.inl rfl) e, ih q⟩
  | tbl ps =>
    have e : h.get? a = some { cls := .none, data := .fields ps } := x
    show h'.get? a = some { cls := .none, data := .fields ps }
    exact k a _ (.inl rfl) e
  | met f y =>
    have e : h.get? a = some (PySem.W.methodObj (.ref f) (.ref y)) := x
    show h'.get? a = some (PySem.W.methodObj (.ref f) (.ref y))
    exact k a _ (.inl rfl) e
  | ext φ => obtain ⟨p, ⟨o, e⟩, st⟩ := x; exact ⟨st _ _ p fun o q => k _ _ (.inl rfl) q, ⟨o, k _ _ (.inl rfl) e⟩, st⟩
theorem HOk.lt (x : HOk P w H h) (e : H a = some o) : a < h.objs.size := (x a o e).lt
theorem HOk.fresh (x : HOk P w H h) (e : h.objs.size ≤ a) : H a = none := by
  cases q : H a with
  | none => rfl
  | some u => exact absurd (Nat.lt_of_lt_of_le (x.lt q) e) (Nat.lt_irrefl _)
theorem HOk.kept (x : HOk P w H h) (k : ∀ b u, h.get? b = some u → h'.get? b = some u) : HOk P w H h' := fun a o e =>
  (x a o e).stay (fun b u _ q => k b u q) (fun _ q => q) fun _ _ q => q
theorem HOk.laid (x : HOk P w H h) (k : ∀ b u, h.get? b = some u → h'.get? b = some u) (hp : h.objs.size ≤ a) (new : ObjOk P w (upd H a o) h' a o) : HOk P w (upd H a o) h' := fun b u e => by
  have hn := x.fresh hp
  by_cases hb : b = a
  · subst hb; rw [upd_same] at e; cases e; exact new
  · rw [upd_ne hb] at e
    exact (x b u e).stay (fun c v _ q => k c v q) (fun c q => by rw [upd_ne (ne_of_none q hn)]; exact q) fun c xs q => by rw [upd_ne (ne_of_none q hn)]; exact q
end
def Rd (H : Hp) (a : Addr) (u : HO) : Prop := H a = some u ∨ ∃ o, H a = some (.frz o u)
theorem Rd.of {H : Hp} {a : Addr} {u : HO} (h : H a = some u) : Rd H a u := .inl h
theorem Rd.ok {P : Program} {w : World} {H : Hp} {h : Heap} {a : Addr} {u : HO} (r : Rd H a u) (x : HOk P w H h) : ObjOk P w H h a u := by
  rcases r with r | ⟨o, r⟩
  · exact x a u r
  · obtain ⟨_, q⟩ := x a _ r
    exact q
def Mut : Option HO → Prop
  | some (.lst _) => True
  | some (.dK _) => True
  | some (.dT _) => True
  | some (.set _ _) => True
  | some (.ins _ _ _) => True
  | some (.ext _) => True
  | _ => False
section
variable {P : Program} {w : World} {H : Hp} {h h' : Heap} {x e : Addr} {o' : HO}
theorem HOk.write (ok : HOk P w H h) (mu : Mut (H x)) (he : e = x ∨ H e = some (.own x)) (k : ∀ b u, b ≠ e → h.get? b = some u → h'.get? b = some u) (heo : ∃ u, h'.get? e = some u)
    (new : ObjOk P w (upd H x o') h' x o') : HOk P w (upd H x o') h' := fun b u q => by
  have nown : ∀ c y, H c = some (.own y) → c ≠ x := fun c y r z => by subst z; rw [r] at mu; exact mu
  have ntup : ∀ c xs, H c = some (.tup xs) → c ≠ x := fun c xs r z => by subst z; rw [r] at mu; exact mu
  by_cases hb : b = x
  · subst hb; rw [upd_same] at q; cases q; exact new
  · rw [upd_ne hb] at q
    by_cases hbe : b = e
    · have q' : H b = some (.own x) := by
        rcases he with z | z
        · exact absurd (hbe.trans z) hb
        · rw [hbe]; exact z
      rw [q] at q'; cases q'
      obtain ⟨v, hv⟩ := heo
      exact ⟨v, by rw [hbe]; exact hv⟩
    · refine (ok b u q).stay (fun c v hc r => k c v ?_ r) (fun c r => by rw [upd_ne (nown c b r)]; exact r) fun c xs r => by rw [upd_ne (ntup c xs r)]; exact r
      rcases hc with rfl | hc
      · exact hbe
      · rintro rfl
        rcases he with z | z
        · exact nown c b hc z
        · rw [hc] at z; cases z; exact hb rfl
end
structure Un (fs ex : List Addr) (H H' : Hp) (h h' : Heap) : Prop where
  keep : ∀ b o, h.get? b = some o → H b = none → b ∉ fs → b ∉ ex → h'.get? b = some o
  slot : ∀ b o, h.get? b = some o → H b = none → b ∈ fs → b ∉ ex → ∃ sl, h'.get? b = some { o with slots := sl }
  free : ∀ b o, h.get? b = some o → H b = none → b ∉ ex → H' b = none
  there : ∀ b o, h.get? b = some o → b ∉ ex → ∃ o', h'.get? b = some o'
  tups : ∀ b xs, H b = some (.tup xs) → H' b = some (.tup xs)
  frzs : ∀ b o u, H b = some (.frz o u) → H' b = some (.frz o u)
  tbls : ∀ b ps, H b = some (.tbl ps) → ∃ more, H' b = some (.tbl (ps ++ more))
section
variable {fs fs' ex ex' : List Addr} {H H1 H2 : Hp} {h h1 h2 h' : Heap} {a x e : Addr} {o : HO}
theorem Un.any (u : Un fs ex H H1 h h1) {b : Addr} {ob : Obj} (q : h.get? b = some ob) (n : H b = none) (hx : b ∉ ex) : ∃ sl, h1.get? b = some { ob with slots := sl } := by
  by_cases hb : b ∈ fs
  · exact u.slot b ob q n hb hx
  · exact ⟨ob.slots, u.keep b ob q n hb hx⟩
theorem Un.trans (a : Un fs ex H H1 h h1) (b : Un fs ex H1 H2 h1 h2) : Un fs ex H H2 h h2 where
  keep := fun c ob q n hc hx => b.keep c ob (a.keep c ob q n hc hx) (a.free c ob q n hx) hc hx
  slot := fun c ob q n hc hx => by
    obtain ⟨sl, e1⟩ := a.slot c ob q n hc hx
    obtain ⟨sl', e2⟩ := b.slot c _ e1 (a.free c ob q n hx) hc hx
    exact ⟨sl', e2⟩
  free := fun c ob q n hx => by
    obtain ⟨o', e1⟩ := a.there c ob q hx
    exact b.free c o' e1 (a.free c ob q n hx) hx
  there := fun c ob q hx => by
    obtain ⟨o', e1⟩ := a.there c ob q hx
    exact b.there c o' e1 hx
  tups := fun c xs q => b.tups c xs (a.tups c xs q)
  frzs := fun c ob xs q => b.frzs c ob xs (a.frzs c ob xs q)
  tbls := fun c ps q => by
    obtain ⟨m1, e1⟩ := a.tbls c ps q
    obtain ⟨m2, e2⟩ := b.tbls c _ e1
    exact ⟨m1 ++ m2, by rw [e2, Array.append_assoc]⟩
theorem Un.kept (k : ∀ b u, h.get? b = some u → h'.get? b = some u) : Un fs ex H H h h' :=
  ⟨fun b ob q _ _ _ => k b ob q, fun b ob q _ _ _ => ⟨ob.slots, k b ob q⟩, fun _ _ _ n _ => n, fun b ob q _ => ⟨ob, k b ob q⟩, fun _ _ q => q, fun _ _ _ q => q, fun _ ps q => ⟨#[], by rw [q]; simp⟩⟩
theorem Un.refl : Un fs ex H H h h := Un.kept fun _ _ q => q
theorem Un.laid (k : ∀ b u, h.get? b = some u → h'.get? b = some u) (hp : h.objs.size ≤ a) (hn : H a = none) : Un fs ex H (upd H a o) h h' where
  keep := fun b u q _ _ _ => k b u q
  slot := fun b u q _ _ _ => ⟨u.slots, k b u q⟩
  free := fun b u q n _ => by rw [upd_ne (Nat.ne_of_lt (Nat.lt_of_lt_of_le (Heap.lt_size q) hp))]; exact n
  there := fun b u q _ => ⟨u, k b u q⟩
  tups := fun b xs q => by rw [upd_ne (ne_of_none q hn)]; exact q
  frzs := fun b u xs q => by rw [upd_ne (ne_of_none q hn)]; exact q
  tbls := fun b ps q => ⟨#[], by rw [upd_ne (ne_of_none q hn), q]; simp⟩
theorem Un.write (mu : Mut (H x)) (he : e = x ∨ H e = some (.own x)) (k : ∀ b u, b ≠ e → h.get? b = some u → h'.get? b = some u) (heo : ∃ u, h'.get? e = some u) : Un fs ex H (upd H x o) h h' := by
  have hx : ∀ b, H b = none → b ≠ x := fun b n z => by subst z; rw [n] at mu; exact mu
  have hb : ∀ b, H b = none → b ≠ e := fun b n z => by
    subst z
    rcases he with r | r
    · exact hx b n r
    · rw [n] at r; cases r
  have hm : ∀ b u, H b = some u → ¬ Mut (some u) → b ≠ x := fun b u q nm z => by subst z; rw [q] at mu; exact nm mu
  refine ⟨fun b u q n _ _ => k b u (hb b n) q, fun b u q n _ _ => ⟨u.slots, k b u (hb b n) q⟩, fun b u q n _ => by rw [upd_ne (hx b n)]; exact n, fun b u q _ => ?_,
    fun b xs q => by rw [upd_ne (hm b _ q fun z => z)]; exact q, fun b u xs q => by rw [upd_ne (hm b _ q fun z => z)]; exact q, fun b ps q => ⟨#[], by rw [upd_ne (hm b _ q fun z => z), q]; simp⟩⟩
  by_cases hbe : b = e
  · subst hbe; exact heo
  · exact ⟨u, k b u hbe q⟩
theorem Un.mono (u : Un fs ex H H1 h h1) (hs : ∀ b ∈ fs, b ∈ fs') (hx : ∀ b ∈ ex, b ∈ ex') : Un fs' ex' H H1 h h1 :=
  ⟨fun b ob q n hb he => u.keep b ob q n (fun z => hb (hs b z)) fun z => he (hx b z), fun _ _ q n _ he => u.any q n fun z => he (hx _ z), fun b ob q n he => u.free b ob q n fun z => he (hx b z), fun b ob q he => u.there b ob q fun z => he (hx b z), u.tups, u.frzs, u.tbls⟩
end
def trk (h : Heap) (H : Hp) : List Addr := (List.range h.objs.size).filter fun a => (H a).isSome
def hidT (h : Heap) (H : Hp) : Heap := PySem.W.hideAll h (trk h H)
theorem hidT_size (h : Heap) (H : Hp) : (hidT h H).objs.size = h.objs.size := PySem.W.hideAll_size _ _
theorem hidT_get {h : Heap} {H : Hp} {b : Addr} {o : Obj} (e : h.get? b = some o) (n : H b = none) : (hidT h H).get? b = some o :=
  PySem.W.hideAll_get _ e fun hm => by
    have q : (H b).isSome = true := (List.mem_filter.mp hm).2
    rw [n] at q; simp at q
theorem of_hidT {h : Heap} {H : Hp} {b : Addr} {o : Obj} (e : (hidT h H).get? b = some o) : h.get? b = some o ∧ H b = none := by
  have e' : h.get? b = some o := PySem.W.of_hideAll (trk h H) e
  refine ⟨e', ?_⟩
  cases q : H b with
  | none => rfl
  | some x =>
    have hm : b ∈ trk h H := List.mem_filter.mpr ⟨List.mem_range.mpr (Heap.lt_size e'), by simp [q]⟩
    have z : (hidT h H).get? b = none := PySem.W.hideAll_none (trk h H) hm
    rw [z] at e; cases e
def allNews (g h : Heap) (L : Addr) : List (Addr × Obj) := (List.range h.objs.size).filterMap fun a => if a = L ∨ (g.get? a).isSome = true then none else (h.get? a).map fun o => (a, o)
def rest (g h : Heap) (L d : Addr) : List (Addr × Obj) := (allNews g h L).filter fun p => decide (p.1 ≠ d)
end L2
namespace L2
open PySem PySem.Spec PyProof.Rows
structure Mod (K : PySem.W.Frag) (mg : Str → Option Value) (base : Heap) : Prop where
  kin : K.In base
  glob : base.Ns mainGlobals mg
  blt : ∃ mb, base.Ns builtinsNs mb ∧ ∀ x : Str, x ≠ "__name__" → mb x = bootBuiltins x
  nolimit : base.NoLimit
structure Cx where
  prog : Program
  w : World
  K : PySem.W.Frag
  mg : Str → Option Value
  base : Heap
  A : Around
  N : List Str
  s₀ : Shared
  H₀ : Hp
  env : Env
  outer : List Env
  stack : List Env
  ex : List Addr
  fn : Str → Bool
  calm : Bool
  pn : List (Addr × Obj)
  xe : Value → Shared → Prop
def frs (l : List Env) : List Addr := l.filterMap (·.frame)
abbrev Cx.fs (X : Cx) : List Addr := frs X.outer
def Vis (sc : Scope) (x : Str) : Prop := sc.names.lookup x = some .local ∨ sc.names.lookup x = some .cell ∨ sc.names.lookup x = some .free
def Loc (sc : Scope) (x : Str) : Prop := sc.names.lookup x = some .local ∨ sc.names.lookup x = some .cell
def Look (env : Env) (h : Heap) (m : Str → Option Value) (x : Str) (u : Value) : Prop :=
  (env.kindOf x = some .local ∧ m x = some u) ∨ ((env.kindOf x = some .cell ∨ env.kindOf x = some .free) ∧ ∃ c, env.cells.lookup x = some c ∧ h.IsCell c (some u))
structure Cx.Ok (X : Cx) : Prop where
  mod : Mod X.K X.mg X.base
  kind : X.env.scope.kind = .function
  glob : X.env.globals = mainGlobals
  blt : X.env.builtins = builtinsNs
  above : X.s₀.heap.objs.size ≤ X.env.locals
  inj : ∀ x y c, X.env.cells.lookup x = some c → X.env.cells.lookup y = some c → x = y
  has : ∀ x, (X.env.kindOf x = some .cell ∨ X.env.kindOf x = some .free) → ∃ c, X.env.cells.lookup x = some c
  cab : ∀ x c, X.fn x = true → X.env.cells.lookup x = some c → X.s₀.heap.objs.size ≤ c
  hd : X.calm = true → X.A.handled = none
  frames : X.A.frames = some X.stack
  stk : X.stack = X.outer ∨ (X.stack = X.env :: X.outer ∧ X.env.frame = some X.env.locals)
  exf : ∀ b ∈ X.ex, b ≠ X.env.locals ∧ ∀ x c, X.env.cells.lookup x = some c → c ≠ b
  bs : ∀ b o, X.base.get? b = some o → X.s₀.heap.get? b = some o ∧ X.H₀ b = none
  bsz : X.base.objs.size ≤ X.s₀.heap.objs.size
  noex : ∀ b o, X.base.get? b = some o → b ∉ X.ex
  exfs : ∀ b ∈ X.ex, b ∉ X.fs
  funs : X.s₀.heap.FunFrames X.base X.outer
  frf : ∀ b ∈ X.fs, X.H₀ b = none
structure Inv (X : Cx) (pins : List (Addr × Obj)) (σ : List (Option V)) (H : Hp) (s : Shared) : Prop where
  ok : X.Ok
  os : s.os = X.s₀.os
  bare : AllBare s.gens
  base : Un X.fs X.ex X.H₀ H X.s₀.heap s.heap
  loc : ∃ m, s.heap.Ns X.env.locals m ∧ ∀ (i : Nat) (x : Str) (v : V), X.N[i]? = some x → σ[i]? = some (some v) → Vis X.env.scope x → ∃ u, RelV v u ∧ Look X.env s.heap m x u
  cell : ∀ x c, X.env.cells.lookup x = some c → ∃ v, s.heap.IsCell c v
  free : H X.env.locals = none
  freeC : ∀ x c, X.env.cells.lookup x = some c → H c = none
  pin : ∀ p ∈ X.pn ++ pins, s.heap.get? p.1 = some p.2 ∧ H p.1 = none ∧ p.1 ≠ X.env.locals ∧ p.1 ∉ X.fs ∧ ∀ v, p.2.data ≠ .cell v
  hok : HOk X.prog X.w H s.heap
  len : σ.length = X.N.length
section
variable {X : Cx} {pins : List (Addr × Obj)} {σ : List (Option V)} {H H' : Hp} {s : Shared} {h' : Heap}
theorem Cx.Ok.nofr (ok : X.Ok) {b : Addr} {o : Obj} (e : X.base.get? b = some o) : b ∉ X.fs := fun hb => by
  have := (ok.funs.mem hb).1
  rw [e] at this; cases this
theorem Inv.bs (I : Inv X pins σ H s) : ∀ b o, X.base.get? b = some o → s.heap.get? b = some o ∧ H b = none := fun b o e =>
  ⟨I.base.keep b o (I.ok.bs b o e).1 (I.ok.bs b o e).2 (I.ok.nofr e) (I.ok.noex b o e), I.base.free b o (I.ok.bs b o e).1 (I.ok.bs b o e).2 (I.ok.noex b o e)⟩
theorem Inv.bk (I : Inv X pins σ H s) : ∀ b o, X.base.get? b = some o → s.heap.get? b = some o := fun b o e => (I.bs b o e).1
theorem Inv.mod (I : Inv X pins σ H s) : Mod X.K X.mg X.base := I.ok.mod
theorem Inv.kIn (I : Inv X pins σ H s) : X.K.In s.heap := I.ok.mod.kin.keeps I.bk
theorem Inv.nolimit (I : Inv X pins σ H s) : s.heap.NoLimit := I.ok.mod.nolimit.keeps I.bk
theorem Inv.fr (I : Inv X pins σ H s) : ∃ m, Fr X.base X.env.locals s.heap m :=
  let ⟨m, hn, _⟩ := I.loc
  ⟨m, hn, I.bk, Nat.le_trans I.ok.bsz I.ok.above⟩
theorem Inv.lt (I : Inv X pins σ H s) : X.env.locals < s.heap.objs.size := let ⟨_, hn, _⟩ := I.loc; hn.lt
theorem Inv.sz (I : Inv X pins σ H s) : X.s₀.heap.objs.size ≤ s.heap.objs.size := Nat.le_trans I.ok.above (Nat.le_of_lt I.lt)
theorem Inv.nofs (I : Inv X pins σ H s) {a : Addr} (h : s.heap.objs.size ≤ a) : a ∉ X.fs := fun hb => by
  obtain ⟨_, o, ho, _⟩ := I.ok.funs.mem hb
  exact absurd (Nat.lt_of_lt_of_le (Heap.lt_size ho) (Nat.le_trans I.sz h)) (Nat.lt_irrefl _)
theorem Inv.cne (I : Inv X pins σ H s) : ∀ x c, X.env.cells.lookup x = some c → c ≠ X.env.locals := fun x c e z => by
  obtain ⟨v, o, ho, hd⟩ := I.cell x c e
  obtain ⟨m, ⟨o', es, ep, ho', hd', _⟩, _⟩ := I.loc
  rw [z, ho'] at ho; cases ho; rw [hd'] at hd; cases hd
theorem Inv.funs (I : Inv X pins σ H s) : s.heap.FunFrames X.base X.outer := by
  have all : ∀ (l : List Env), (∀ b ∈ frs l, b ∈ X.fs) → X.s₀.heap.FunFrames X.base l → s.heap.FunFrames X.base l := by
    intro l
    induction l with
    | nil => intro _ _; trivial
    | cons env r ih =>
      intro hs hl
      obtain ⟨hk, ⟨L, o, hf, hn, ho, hd⟩, hr⟩ := hl
      have hL : L ∈ X.fs := hs L (by unfold frs; rw [List.filterMap_cons, hf]; exact List.mem_cons_self)
      obtain ⟨sl, e⟩ := I.base.slot L o ho (I.ok.frf L hL) hL fun z => I.ok.exfs L z hL
      exact ⟨hk, ⟨L, _, hf, hn, e, hd⟩, ih (fun b hb => hs b (by unfold frs; rw [List.filterMap_cons, hf]; exact List.mem_cons_of_mem _ hb)) hr⟩
  exact all X.outer (fun _ hb => hb) I.ok.funs
theorem Inv.stack (I : Inv X pins σ H s) : s.heap.FunFrames X.base X.stack := by
  rcases I.ok.stk with e | ⟨e, hf⟩
  · rw [e]; exact I.funs
  · rw [e]
    obtain ⟨m, hn, _⟩ := I.loc
    refine .cons (by rw [I.ok.kind]; decide) hf hn ?_ I.funs
    exact Heap.get?_none_of_le (Nat.le_trans I.ok.bsz I.ok.above)
theorem Inv.stkSub (I : Inv X pins σ H s) : ∀ b ∈ frs X.stack, b ∈ X.env.locals :: X.fs := fun b hb => by
  rcases I.ok.stk with e | ⟨e, hf⟩
  · rw [e] at hb; exact List.mem_cons_of_mem _ hb
  · rw [e] at hb
    unfold frs at hb
    rw [List.filterMap_cons, hf] at hb
    exact hb
theorem Inv.stkFree (I : Inv X pins σ H s) : ∀ b ∈ frs X.stack, H b = none := fun b hb => by
  rcases List.mem_cons.mp (I.stkSub b hb) with e | hb
  · rw [e]; exact I.free
  · obtain ⟨_, o, ho, _⟩ := I.ok.funs.mem hb
    exact I.base.free b o ho (I.ok.frf b hb) fun z => I.ok.exfs b z hb
theorem Inv.step {g' : Array GenState} {t' : Nat} {d' : Drawn} {ch : List Addr} (I : Inv X pins σ H s)
    (hch : ∀ b ∈ ch, (b ∈ X.ex ∨ X.s₀.heap.objs.size ≤ b) ∧ b ≠ X.env.locals ∧ (∀ x c, X.env.cells.lookup x = some c → c ≠ b) ∧ ∀ p ∈ X.pn ++ pins, p.1 ≠ b)
    (keep : ∀ b o, b ≠ X.env.locals → b ∉ X.fs → b ∉ ch → s.heap.get? b = some o → H b = none → h'.get? b = some o)
    (slot : ∀ b o, b ≠ X.env.locals → b ∈ X.fs → b ∉ ch → s.heap.get? b = some o → H b = none → ∃ sl, h'.get? b = some { o with slots := sl }) (free : ∀ b o, b ∉ ch → s.heap.get? b = some o → H b = none → H' b = none)
    (there : ∀ b o, b ∉ ch → s.heap.get? b = some o → ∃ o', h'.get? b = some o')
    (tups : ∀ b xs, H b = some (.tup xs) → H' b = some (.tup xs)) (frzs : ∀ b o u, H b = some (.frz o u) → H' b = some (.frz o u)) (tbls : ∀ b ps, H b = some (.tbl ps) → ∃ more, H' b = some (.tbl (ps ++ more)))
    (ns : ∀ m, s.heap.Ns X.env.locals m → h'.Ns X.env.locals m) (hok : HOk X.prog X.w H' h') (hg : AllBare g') :
    Inv X pins σ H' { s with heap := h', gens := g', drawn := d', toks := t' } := by
  have neL : ∀ b o, X.s₀.heap.get? b = some o → b ≠ X.env.locals := fun b o e => Nat.ne_of_lt (Nat.lt_of_lt_of_le (Heap.lt_size e) I.ok.above)
  have neC : ∀ b o, X.s₀.heap.get? b = some o → b ∉ X.ex → b ∉ ch := fun b o e hx hb => by
    rcases (hch b hb).1 with z | z
    · exact hx z
    · exact absurd (Nat.lt_of_lt_of_le (Heap.lt_size e) z) (Nat.lt_irrefl _)
  have cellK : ∀ x c, X.env.cells.lookup x = some c → ∀ v, s.heap.IsCell c v → h'.IsCell c v := fun x c e v ⟨o, ho, hd⟩ => by
    have nch : c ∉ ch := fun z => (hch c z).2.2.1 x c e rfl
    by_cases hc : c ∈ X.fs
    · obtain ⟨sl, q⟩ := slot c o (I.cne x c e) hc nch ho (I.freeC x c e)
      exact ⟨_, q, hd⟩
    · exact ⟨o, keep c o (I.cne x c e) hc nch ho (I.freeC x c e), hd⟩
  refine ⟨I.ok, I.os, hg, ⟨fun b o e n hb hx => ?_, fun b o e n hb hx => ?_, fun b o e n hx => ?_, fun b o e hx => ?_, fun b xs e => tups b xs (I.base.tups b xs e), fun b o xs e => frzs b o xs (I.base.frzs b o xs e), fun b ps e => ?_⟩, ?_, fun x c e => ?_, ?_, fun x c e => ?_, fun p hp => ?_, hok, I.len⟩
  · exact keep b o (neL b o e) hb (neC b o e hx) (I.base.keep b o e n hb hx) (I.base.free b o e n hx)
  · obtain ⟨sl, e1⟩ := I.base.slot b o e n hb hx
    obtain ⟨sl', e2⟩ := slot b _ (neL b o e) hb (neC b o e hx) e1 (I.base.free b o e n hx)
    exact ⟨sl', e2⟩
  · obtain ⟨o', e1⟩ := I.base.there b o e hx
    exact free b o' (neC b o e hx) e1 (I.base.free b o e n hx)
  · obtain ⟨o', e1⟩ := I.base.there b o e hx
    exact there b o' (neC b o e hx) e1
  · obtain ⟨m1, e1⟩ := I.base.tbls b ps e
    obtain ⟨m2, e2⟩ := tbls b _ e1
    exact ⟨m1 ++ m2, by rw [e2, Array.append_assoc]⟩
  · obtain ⟨m, hn, hl⟩ := I.loc
    refine ⟨m, ns m hn, fun i x v e1 e2 e3 => ?_⟩
    obtain ⟨u, r, l⟩ := hl i x v e1 e2 e3
    refine ⟨u, r, ?_⟩
    rcases l with l | ⟨k, c, e, z⟩
    · exact .inl l
    · exact .inr ⟨k, c, e, cellK x c e _ z⟩
  · obtain ⟨v, z⟩ := I.cell x c e
    exact ⟨v, cellK x c e v z⟩
  · obtain ⟨m, ⟨o, _, _, ho, _⟩, _⟩ := I.loc
    exact free _ o (fun z => (hch _ z).2.1 rfl) ho I.free
  · obtain ⟨v, o, ho, hd⟩ := I.cell x c e
    exact free c o (fun z => (hch c z).2.2.1 x c e rfl) ho (I.freeC x c e)
  · obtain ⟨e, n, ne, nf, d⟩ := I.pin p hp
    have nch : p.1 ∉ ch := fun z => (hch p.1 z).2.2.2 p hp rfl
    exact ⟨keep p.1 p.2 ne nf nch e n, free p.1 p.2 nch e n, ne, nf, d⟩
theorem Inv.un {t' : Nat} (I : Inv X pins σ H s) (u : Un X.fs [] H H' s.heap h') (hok : HOk X.prog X.w H' h') : Inv X pins σ H' { s with heap := h', toks := t' } := by
  obtain ⟨m, ⟨o, es, ep, ho, r⟩, _⟩ := id I.loc
  obtain ⟨sl, hL⟩ := u.any ho I.free (by simp)
  exact I.step (g' := s.gens) (d' := s.drawn) (ch := []) (fun _ z => nomatch z) (fun b o _ hb _ e n => u.keep b o e n hb (by simp)) (fun b o _ hb _ e n => u.slot b o e n hb (by simp)) (fun b o _ e n => u.free b o e n (by simp)) (fun b o _ e => u.there b o e (by simp)) u.tups u.frzs u.tbls (fun m' hm => by
    obtain ⟨o', es', ep', ho', r'⟩ := hm
    rw [ho] at ho'; cases ho'
    exact ⟨_, es', ep', hL, r'⟩) hok I.bare
theorem Inv.call {g' : Array GenState} {t' : Nat} {d' : Drawn} {ch : List Addr} (I : Inv X pins σ H s) (u : Un (frs X.stack) ch H H' s.heap h') (hok : HOk X.prog X.w H' h') (hg : AllBare g')
    (hch : ∀ b ∈ ch, (b ∈ X.ex ∨ X.s₀.heap.objs.size ≤ b) ∧ b ≠ X.env.locals ∧ (∀ x c, X.env.cells.lookup x = some c → c ≠ b) ∧ ∀ p ∈ X.pn ++ pins, p.1 ≠ b) :
    Inv X pins σ H' { s with heap := h', gens := g', drawn := d', toks := t' } := by
  obtain ⟨m, ⟨o, es, ep, ho, r⟩, _⟩ := id I.loc
  obtain ⟨sl, hL⟩ := u.any ho I.free fun z => (hch _ z).2.1 rfl
  exact I.step (ch := ch) hch (fun b o hL hb hc e n => u.keep b o e n (fun z => (List.mem_cons.mp (I.stkSub b z)).elim hL hb) hc) (fun b o _ _ hc e n => u.any e n hc) (fun b o hc e n => u.free b o e n hc) (fun b o hc e => u.there b o e hc) u.tups u.frzs u.tbls (fun m' hm => by
    obtain ⟨o', es', ep', ho', r'⟩ := hm
    rw [ho] at ho'; cases ho'
    exact ⟨_, es', ep', hL, r'⟩) hok hg
theorem Inv.turned {t' : Nat} {it : Addr} (I : Inv X pins σ H s) (k : ∀ b o, b ≠ it → s.heap.get? b = some o → h'.get? b = some o) (hn : H it = none) (hL : it ≠ X.env.locals)
    (h1 : it ∈ X.ex ∨ X.s₀.heap.objs.size ≤ it) (h2 : ∀ x c, X.env.cells.lookup x = some c → c ≠ it) (h3 : ∀ p ∈ X.pn ++ pins, p.1 ≠ it) : Inv X pins σ H { s with heap := h', toks := t' } := by
  have nit : ∀ b u, H b = some u → b ≠ it := fun b u e z => by rw [z, hn] at e; cases e
  refine I.step (g' := s.gens) (d' := s.drawn) (ch := [it]) (fun b hb => ?_) (fun b o _ _ hc e _ => k b o (fun z => hc (by simp [z])) e) (fun b o _ _ hc e _ => ⟨o.slots, k b o (fun z => hc (by simp [z])) e⟩) (fun _ _ _ _ n => n)
    (fun b o hc e => ⟨o, k b o (fun z => hc (by simp [z])) e⟩) (fun _ _ e => e) (fun _ _ _ e => e) (fun b ps e => ⟨#[], by rw [e]; simp⟩) (fun m hm => ?_) (fun b u e => ?_) I.bare
  · have e : b = it := by simpa using hb
    subst e
    exact ⟨h1, hL, h2, h3⟩
  · obtain ⟨o, es, ep, ho, r⟩ := hm
    exact ⟨o, es, ep, k _ o (Ne.symm hL) ho, r⟩
  · refine (I.hok b u e).stay (fun c v hc q => k c v ?_ q) (fun _ q => q) fun _ _ q => q
    rcases hc with z | z
    · rw [z]; exact nit b u e
    · exact nit c _ z
theorem Inv.tok (I : Inv X pins σ H s) (t : Nat) : Inv X pins σ H { s with toks := t } := I.un (h' := s.heap) (t' := t) Un.refl I.hok
theorem Inv.kept {t' : Nat} (I : Inv X pins σ H s) (k : ∀ b u, s.heap.get? b = some u → h'.get? b = some u) : Inv X pins σ H { s with heap := h', toks := t' } := I.un (Un.kept k) (I.hok.kept k)
theorem Inv.laid {a : Addr} {o : HO} {t' : Nat} (I : Inv X pins σ H s) (k : ∀ b u, s.heap.get? b = some u → h'.get? b = some u) (hp : s.heap.objs.size ≤ a) (new : ObjOk X.prog X.w (upd H a o) h' a o) :
    Inv X pins σ (upd H a o) { s with heap := h', toks := t' } := I.un (Un.laid k hp (I.hok.fresh hp)) (I.hok.laid k hp new)
theorem Inv.write {x e : Addr} {o : HO} {t' : Nat} (I : Inv X pins σ H s) (mu : Mut (H x)) (he : e = x ∨ H e = some (.own x)) (k : ∀ b u, b ≠ e → s.heap.get? b = some u → h'.get? b = some u) (heo : ∃ u, h'.get? e = some u)
    (new : ObjOk X.prog X.w (upd H x o) h' x o) : Inv X pins σ (upd H x o) { s with heap := h', toks := t' } := I.un (Un.write mu he k heo) (I.hok.write mu he k heo new)
theorem Inv.weak {σ' : List (Option V)} (I : Inv X pins σ H s) (hl : σ'.length = σ.length) (w : ∀ (i : Nat) v, σ'[i]? = some (some v) → σ[i]? = some (some v)) : Inv X pins σ' H s :=
  ⟨I.ok, I.os, I.bare, I.base, let ⟨m, hn, hl'⟩ := I.loc; ⟨m, hn, fun i x v e1 e2 e3 => hl' i x v e1 (w i v e2) e3⟩, I.cell, I.free, I.freeC, I.pin, I.hok, hl.trans I.len⟩
theorem Inv.pins_of {pins' : List (Addr × Obj)} (I : Inv X pins σ H s) (h : ∀ p ∈ pins', s.heap.get? p.1 = some p.2 ∧ H p.1 = none ∧ p.1 ≠ X.env.locals ∧ p.1 ∉ X.fs ∧ ∀ v, p.2.data ≠ .cell v) : Inv X pins' σ H s :=
  ⟨I.ok, I.os, I.bare, I.base, I.loc, I.cell, I.free, I.freeC, fun p hp => (List.mem_append.mp hp).elim (fun z => I.pin p (List.mem_append_left _ z)) (h p), I.hok, I.len⟩
theorem nodup_ix {N : List Str} (hN : N.Nodup) {i j : Nat} {x : Str} (a : N[i]? = some x) (b : N[j]? = some x) : i = j := by
  obtain ⟨h1, e1⟩ := List.getElem?_eq_some_iff.mp a
  obtain ⟨h2, e2⟩ := List.getElem?_eq_some_iff.mp b
  exact (List.getElem_inj hN).mp (e1.trans e2.symm)
theorem store_ok2 {M : Model} {A : Around} {E : Value → Shared → Prop} {i : Nat} {x : Str} {v : V} {u : Value} {Q : Unit → Shared → Prop} (I : Inv X pins σ H s) (hN : X.N.Nodup) (hi : X.N[i]? = some x) (hx : Loc X.env.scope x) (r : RelV v u)
    (h : ∀ s', Inv X pins (σ.set i (some v)) H s' → (∃ a, Heap.SameBut a s.heap s'.heap ∧ (a = X.env.locals ∨ X.env.cells.lookup x = some a)) → Q () s') (hf : X.fn x = true ∨ X.env.scope.names.lookup x = some .local := by first | exact .inl rfl | exact .inr rfl | assumption) : wpAny M A (storeName X.env x u) Q E s := by
  obtain ⟨m, hn, hl⟩ := id I.loc
  have hcls : (X.env.scope.kind == .class || (X.env.scope.kind == .module && X.env.locals != X.env.globals)) = false := by rw [I.ok.kind]; rfl
  have hiσ : i < σ.length := by rw [I.len]; exact (List.getElem?_eq_some_iff.mp hi).1
  have cne := I.cne
  have tracked : ∀ {a : Addr} {h' : Heap}, (∃ o, s.heap.get? a = some o ∧ H a = none) → Heap.SameBut a s.heap h' → HOk X.prog X.w H h' := fun {a h'} ha hs b ob e => by
    obtain ⟨_, _, hfree⟩ := ha
    refine (I.hok b ob e).stay (fun c w' hc q => (hs.2 c ?_).trans q) (fun _ q => q) fun _ _ q => q
    rintro rfl
    rcases hc with rfl | hc
    · rw [hfree] at e; cases e
    · rw [hfree] at hc; cases hc
  rcases hx with hk | hk
  · refine wpAny_storeName_local hk hn (fun h' hn' hs => ?_) hcls
    obtain ⟨oL, _, _, hoL, _⟩ := id hn
    refine h _ ⟨I.ok, I.os, I.bare, ⟨fun b o e n hb hx => ?_, fun b o e n hb hx => ?_, I.base.free, fun b o e hx => ?_, I.base.tups, I.base.frzs, I.base.tbls⟩, ⟨_, hn', fun j y v' e1 e2 e3 => ?_⟩, fun y c e => ?_, I.free, I.freeC, fun p hp => ?_, tracked ⟨oL, hoL, I.free⟩ hs, by simpa using I.len⟩ ⟨_, hs, .inl rfl⟩
    · exact (hs.2 b (Nat.ne_of_lt (Nat.lt_of_lt_of_le (Heap.lt_size e) I.ok.above))).trans (I.base.keep b o e n hb hx)
    · obtain ⟨sl, e1⟩ := I.base.slot b o e n hb hx
      exact ⟨sl, (hs.2 b (Nat.ne_of_lt (Nat.lt_of_lt_of_le (Heap.lt_size e) I.ok.above))).trans e1⟩
    · obtain ⟨o', e1⟩ := I.base.there b o e hx
      exact ⟨o', (hs.2 b (Nat.ne_of_lt (Nat.lt_of_lt_of_le (Heap.lt_size e) I.ok.above))).trans e1⟩
    · by_cases hj : j = i
      · subst hj
        rw [hi] at e1; cases e1
        rw [List.getElem?_set_self hiσ] at e2
        cases e2
        exact ⟨u, r, .inl ⟨hk, by simp⟩⟩
      · rw [List.getElem?_set_ne (Ne.symm hj)] at e2
        obtain ⟨u', r', q⟩ := hl j y v' e1 e2 e3
        refine ⟨u', r', ?_⟩
        rcases q with ⟨k, e⟩ | ⟨k, c, e, z⟩
        · refine .inl ⟨k, ?_⟩
          have : y ≠ x := fun e => hj (nodup_ix hN e1 (e ▸ hi))
          simp [this, e]
        · exact .inr ⟨k, c, e, z.sameBut hs (cne y c e)⟩
    · obtain ⟨w', z⟩ := I.cell y c e
      exact ⟨w', z.sameBut hs (cne y c e)⟩
    · obtain ⟨e, n, ne, nf, d⟩ := I.pin p hp
      exact ⟨(hs.2 p.1 ne).trans e, n, ne, nf, d⟩
  · have hfn : X.fn x = true := by
      rcases hf with z | z
      · exact z
      · rw [z] at hk; cases hk
    obtain ⟨c, hc⟩ := I.ok.has x (.inl hk)
    obtain ⟨w', z⟩ := I.cell x c hc
    refine wpAny_storeName_cell I.ok.kind hk hc z (fun h' hc' hs => ?_)
    obtain ⟨oc, hoc, hocd⟩ := id z
    refine h { s with heap := h' } ⟨I.ok, I.os, I.bare, ⟨fun b o e n hb hx => ?_, fun b o e n hb hx => ?_, I.base.free, fun b o e hx => ?_, I.base.tups, I.base.frzs, I.base.tbls⟩, ⟨m, hn.sameBut hs (Ne.symm (cne x c hc)), fun j y v' e1 e2 e3 => ?_⟩, fun y c' e => ?_, I.free, I.freeC, fun p hp => ?_, tracked ⟨oc, hoc, I.freeC x c hc⟩ hs, by simpa using I.len⟩ ⟨c, hs, .inr hc⟩
    · exact (hs.2 b (Nat.ne_of_lt (Nat.lt_of_lt_of_le (Heap.lt_size e) (I.ok.cab x c hfn hc)))).trans (I.base.keep b o e n hb hx)
    · obtain ⟨sl, e1⟩ := I.base.slot b o e n hb hx
      exact ⟨sl, (hs.2 b (Nat.ne_of_lt (Nat.lt_of_lt_of_le (Heap.lt_size e) (I.ok.cab x c hfn hc)))).trans e1⟩
    · obtain ⟨o', e1⟩ := I.base.there b o e hx
      exact ⟨o', (hs.2 b (Nat.ne_of_lt (Nat.lt_of_lt_of_le (Heap.lt_size e) (I.ok.cab x c hfn hc)))).trans e1⟩
    · by_cases hj : j = i
      · subst hj
        rw [hi] at e1; cases e1
        rw [List.getElem?_set_self hiσ] at e2
        cases e2
        exact ⟨u, r, .inr ⟨.inl hk, c, hc, hc'⟩⟩
      · rw [List.getElem?_set_ne (Ne.symm hj)] at e2
        obtain ⟨u', r', q⟩ := hl j y v' e1 e2 e3
        refine ⟨u', r', ?_⟩
        rcases q with q | ⟨k, c', e, z'⟩
        · exact .inl q
        · refine .inr ⟨k, c', e, z'.sameBut hs ?_⟩
          rintro rfl
          exact hj (nodup_ix hN e1 (I.ok.inj _ _ _ e hc ▸ hi))
    · by_cases hcc : c' = c
      · subst hcc; exact ⟨_, hc'⟩
      · obtain ⟨w2, z2⟩ := I.cell y c' e
        exact ⟨w2, z2.sameBut hs hcc⟩
    · obtain ⟨e, n, ne, nf, d⟩ := I.pin p hp
      refine ⟨(hs.2 p.1 ?_).trans e, n, ne, nf, d⟩
      intro q
      rw [q, hoc] at e
      have q' : oc = p.2 := Option.some.inj e
      exact d w' (by rw [← q']; exact hocd)
theorem store_ok {M : Model} {A : Around} {E : Value → Shared → Prop} {i : Nat} {x : Str} {v : V} {u : Value} {Q : Unit → Shared → Prop} (I : Inv X pins σ H s) (hN : X.N.Nodup) (hi : X.N[i]? = some x) (hx : Loc X.env.scope x) (r : RelV v u)
    (h : ∀ s', Inv X pins (σ.set i (some v)) H s' → Q () s') (hf : X.fn x = true ∨ X.env.scope.names.lookup x = some .local := by first | exact .inl rfl | exact .inr rfl | assumption) : wpAny M A (storeName X.env x u) Q E s :=
  store_ok2 I hN hi hx r (fun s' I' _ => h s' I') hf
theorem Inv.call' {s' : Shared} {ch : List Addr} (I : Inv X pins σ H s) (ho : s'.os = s.os) (u : Un (frs X.stack) ch H H' s.heap s'.heap) (hok : HOk X.prog X.w H' s'.heap) (hg : AllBare s'.gens)
    (hch : ∀ b ∈ ch, (b ∈ X.ex ∨ X.s₀.heap.objs.size ≤ b) ∧ b ≠ X.env.locals ∧ (∀ x c, X.env.cells.lookup x = some c → c ≠ b) ∧ ∀ p ∈ X.pn ++ pins, p.1 ≠ b) : Inv X pins σ H' s' := by
  obtain ⟨h', g', d', t', o'⟩ := s'
  have e : o' = s.os := ho
  subst e
  exact I.call (g' := g') (t' := t') (d' := d') u hok hg hch
end
abbrev XK := Value → Option Addr → Hp → Prop
abbrev St := List (Option V)
abbrev VK := V → Hp → Prop
abbrev TE := St → Hp → VK → Prop
abbrev TT := St → Hp → (Bool → Hp → Prop) → Prop
abbrev TA := St → Hp → (List V → Hp → Prop) → Prop
structure Ends where
  nx : St → Hp → Prop
  rt : VK
  bk : St → Hp → Prop := fun _ _ => False
  ct : St → Hp → Prop := fun _ _ => False
abbrev TS := Ends → St → Hp → Prop
def EP (X : Cx) (pins : List (Addr × Obj)) (σ : St) (Q : VK) (u : Value) (s' : Shared) : Prop := ∃ v H', Inv X pins σ H' s' ∧ RelV v u ∧ Q v H'
def TP (X : Cx) (pins : List (Addr × Obj)) (σ : St) (Q : Bool → Hp → Prop) (b : Bool) (s' : Shared) : Prop := ∃ H', Inv X pins σ H' s' ∧ Q b H'
def AP (X : Cx) (pins : List (Addr × Obj)) (σ : St) (Q : List V → Hp → Prop) (us : List Value) (s' : Shared) : Prop := ∃ vs H', Inv X pins σ H' s' ∧ Vals vs us ∧ Q vs H'
def SP (X : Cx) (pins : List (Addr × Obj)) (D : Ends) (f : Flow) (s' : Shared) : Prop :=
  match f with
  | .next => ∃ σ' H', Inv X pins σ' H' s' ∧ D.nx σ' H'
  | .brk => ∃ σ' H', Inv X pins σ' H' s' ∧ D.bk σ' H'
  | .cont => ∃ σ' H', Inv X pins σ' H' s' ∧ D.ct σ' H'
  | .ret u => ∃ v σ' H', Inv X pins σ' H' s' ∧ RelV v u ∧ D.rt v H'
structure PE (X : Cx) (e : Expr) (t : TE) : Prop where
  run : ∀ (pins : List (Addr × Obj)) (s : Shared) (σ : St) (H : Hp) (Q : VK), Inv X pins σ H s → t σ H Q → wpAny (model X.prog X.w) X.A (eval e X.env) (EP X pins σ Q) X.xe s
instance {X : Cx} {e : Expr} {t : TE} : CoeFun (PE X e t) fun _ => ∀ (pins : List (Addr × Obj)) (s : Shared) (σ : St) (H : Hp) (Q : VK), Inv X pins σ H s → t σ H Q → wpAny (model X.prog X.w) X.A (eval e X.env) (EP X pins σ Q) X.xe s := ⟨PE.run⟩
structure PT (X : Cx) (e : Expr) (t : TT) : Prop where
  run : ∀ (pins : List (Addr × Obj)) (s : Shared) (σ : St) (H : Hp) (Q : Bool → Hp → Prop), Inv X pins σ H s → t σ H Q → wpAny (model X.prog X.w) X.A (isTrue e X.env (eval e X.env)) (TP X pins σ Q) X.xe s
instance {X : Cx} {e : Expr} {t : TT} : CoeFun (PT X e t) fun _ => ∀ (pins : List (Addr × Obj)) (s : Shared) (σ : St) (H : Hp) (Q : Bool → Hp → Prop), Inv X pins σ H s → t σ H Q → wpAny (model X.prog X.w) X.A (isTrue e X.env (eval e X.env)) (TP X pins σ Q) X.xe s := ⟨PT.run⟩
structure PW (X : Cx) (e : Expr) (t : TT) : Prop where
  run : ∀ (whole : Sem Value) (pins : List (Addr × Obj)) (s : Shared) (σ : St) (H : Hp) (Q : Bool → Hp → Prop), Inv X pins σ H s → t σ H Q → wpAny (model X.prog X.w) X.A (isTrue e X.env whole) (TP X pins σ Q) X.xe s
instance {X : Cx} {e : Expr} {t : TT} : CoeFun (PW X e t) fun _ => ∀ (whole : Sem Value) (pins : List (Addr × Obj)) (s : Shared) (σ : St) (H : Hp) (Q : Bool → Hp → Prop), Inv X pins σ H s → t σ H Q → wpAny (model X.prog X.w) X.A (isTrue e X.env whole) (TP X pins σ Q) X.xe s := ⟨PW.run⟩
theorem PW.pt {X : Cx} {e : Expr} {t : TT} (h : PW X e t) : PT X e t := ⟨h _⟩
structure PA (X : Cx) (es : List Expr) (t : TA) : Prop where
  run : ∀ (pos : Pos) (pins : List (Addr × Obj)) (s : Shared) (σ : St) (H : Hp) (Q : List V → Hp → Prop), Inv X pins σ H s → t σ H Q → wpAny (model X.prog X.w) X.A (spliced (backTo pos (starEach es X.env))) (AP X pins σ Q) X.xe s
instance {X : Cx} {es : List Expr} {t : TA} : CoeFun (PA X es t) fun _ => ∀ (pos : Pos) (pins : List (Addr × Obj)) (s : Shared) (σ : St) (H : Hp) (Q : List V → Hp → Prop), Inv X pins σ H s → t σ H Q → wpAny (model X.prog X.w) X.A (spliced (backTo pos (starEach es X.env))) (AP X pins σ Q) X.xe s := ⟨PA.run⟩
structure PS (X : Cx) (st : Stmt) (t : TS) : Prop where
  run : ∀ (pins : List (Addr × Obj)) (s : Shared) (σ : St) (H : Hp) (D : Ends), Inv X pins σ H s → t D σ H → wpAny (model X.prog X.w) X.A (exec st X.env) (SP X pins D) X.xe s
instance {X : Cx} {st : Stmt} {t : TS} : CoeFun (PS X st t) fun _ => ∀ (pins : List (Addr × Obj)) (s : Shared) (σ : St) (H : Hp) (D : Ends), Inv X pins σ H s → t D σ H → wpAny (model X.prog X.w) X.A (exec st X.env) (SP X pins D) X.xe s := ⟨PS.run⟩
structure PSs (X : Cx) (st : List Stmt) (t : TS) : Prop where
  run : ∀ (pins : List (Addr × Obj)) (s : Shared) (σ : St) (H : Hp) (D : Ends), Inv X pins σ H s → t D σ H → wpAny (model X.prog X.w) X.A (execs st X.env) (SP X pins D) X.xe s
instance {X : Cx} {st : List Stmt} {t : TS} : CoeFun (PSs X st t) fun _ => ∀ (pins : List (Addr × Obj)) (s : Shared) (σ : St) (H : Hp) (D : Ends), Inv X pins σ H s → t D σ H → wpAny (model X.prog X.w) X.A (execs st X.env) (SP X pins D) X.xe s := ⟨PSs.run⟩
theorem thn {α : Type} {t : Sem α} {Q Q' : α → Shared → Prop} {M : Model} {A : Around} {E : Value → Shared → Prop} {s : Shared} (h : wpAny M A t Q E s) (hQ : ∀ a s, Q a s → Q' a s) : wpAny M A t Q' E s := wpAny_mono h hQ fun _ _ x => x
end L2
namespace L2
open PySem PySem.Spec PyProof.Rows
section
variable {X : Cx}
theorem bin {a b : Expr} {ta tb : TE} (ha : PE X a ta) (hb : PE X b tb) {pins : List (Addr × Obj)} {s : Shared} {σ : St} {H : Hp} {R : V → V → Hp → Prop} (I : Inv X pins σ H s) (h : ta σ H fun x H1 => tb σ H1 fun y H2 => R x y H2)
    {α : Type} {Q : α → Shared → Prop} {f : Value → Value → Sem α}
    (hf : ∀ v u s2 x y H2, Inv X pins σ H2 s2 → RelV x v → RelV y u → R x y H2 → wpAny (model X.prog X.w) X.A (f v u) Q X.xe s2) :
    wpAny (model X.prog X.w) X.A (eval a X.env) (fun v s₁ => wpAny (model X.prog X.w) X.A (eval b X.env) (fun u s₂ => wpAny (model X.prog X.w) X.A (f v u) Q X.xe s₂) X.xe s₁) X.xe s := by
  refine thn (ha pins s σ H _ I h) fun v s1 ⟨x, H1, I1, r1, q1⟩ => ?_
  refine thn (hb pins s1 σ H1 _ I1 q1) fun u s2 ⟨y, H2, I2, r2, q2⟩ => ?_
  exact hf v u s2 x y H2 I2 r1 r2 q2
def tVar (i : Nat) : TE := fun σ H Q => ∃ v, σ[i]? = some (some v) ∧ Q v H
def tC (v : V) : TE := fun _ H Q => Q v H
theorem pe_var {i : Nat} {x : Str} {pos : Pos} (hN : X.N[i]? = some x) (hv : Vis X.env.scope x) (hd : (x == ("__debug__" : Str)) = false := by decide) (hcd : (x == ("__classdict__" : Str)) = false := by decide) : PE X (.Name x pos) (tVar i) := by
  (first | refine ⟨?_⟩ | skip); intro pins s σ H Q I h
  obtain ⟨v, e, h⟩ := h
  obtain ⟨m, hn, hl⟩ := I.loc
  obtain ⟨u, r, l⟩ := hl i x v hN e hv
  have fin : EP X pins σ Q u s := ⟨v, H, I, r, h⟩
  rcases l with ⟨hk, hm⟩ | ⟨hk, c, hc, hcell⟩
  · exact wpAny_Name (wpAny_loadName_local I.ok.kind hk hn hm fin) hd
  · rcases hk with hk | hk
    · exact wpAny_Name (wpAny_loadName_cell I.ok.kind hk hc hcell fin) hd
    · exact wpAny_Name (wpAny_loadName_free I.ok.kind hk hc hcell fin hcd) hd
theorem pe_int {i j pos} : PE X (.Constant (.int i) j pos) (tC (.int i)) := .mk <| fun _ _ _ H _ I h => wpAny_Constant_int ⟨.int i, H, I.tok _, ⟨_, rfl⟩, h⟩
theorem pe_bl {b j pos} : PE X (.Constant (.bool b) j pos) (tC (.bl b)) := .mk <| fun _ _ _ H _ I h => Constant_bool ⟨.bl b, H, I, rfl, h⟩
theorem pe_non {j pos} : PE X (.Constant .none j pos) (tC .non) := .mk <| fun _ _ _ H _ I h => Constant_none ⟨.non, H, I, rfl, h⟩
theorem pe_str {x j pos} : PE X (.Constant (.str x) j pos) (tC (.str x)) := .mk <| fun _ _ _ H _ I h => Calls.Constant_str ⟨.str x, H, I.tok _, ⟨_, rfl⟩, h⟩
def Gl (X : Cx) (x : Str) : Prop := X.env.kindOf x = some .globalImplicit
theorem ld_glob {E : Value → Shared → Prop} {pins : List (Addr × Obj)} {s : Shared} {σ : St} {H : Hp} {x : Str} {u : Value} {pos : Pos} {Q : Value → Shared → Prop} (I : Inv X pins σ H s) (hg : Gl X x) (hm : X.mg x = some u) (h : Q u s)
    (hd : (x == ("__debug__" : Str)) = false := by decide) : wpAny (model X.prog X.w) X.A (eval (.Name x pos) X.env) Q E s :=
  Calls.Name_function_global I.ok.kind hg (Calls.loadGlobal_global (by rw [I.ok.glob]; exact I.mod.glob.keeps I.bk) hm h) hd
theorem ld_blt {E : Value → Shared → Prop} {pins : List (Addr × Obj)} {s : Shared} {σ : St} {H : Hp} {x : Str} {u : Value} {pos : Pos} {Q : Value → Shared → Prop} (I : Inv X pins σ H s) (hg : Gl X x) (hm : X.mg x = none) (hv : bootBuiltins x = some u) (h : Q u s)
    (hn : x ≠ "__name__" := by decide) (hd : (x == ("__debug__" : Str)) = false := by decide) : wpAny (model X.prog X.w) X.A (eval (.Name x pos) X.env) Q E s := by
  obtain ⟨mb, h1, h2⟩ := I.mod.blt
  exact Calls.Name_function_global I.ok.kind hg (Calls.loadGlobal_builtin (by rw [I.ok.glob]; exact I.mod.glob.keeps I.bk) hm (by rw [I.ok.blt]; exact h1.keeps I.bk) ((h2 x hn).trans hv) h) hd
theorem pe_glob {x : Str} {v : V} {u : Value} {pos : Pos} (hg : Gl X x) (hm : X.mg x = some u) (r : RelV v u) (hd : (x == ("__debug__" : Str)) = false := by decide) : PE X (.Name x pos) (tC v) :=
  .mk <| fun _ _ _ H _ I h => ld_glob I hg hm ⟨v, H, I, r, h⟩ hd
theorem pe_bltn {x : Str} {v : V} {u : Value} {pos : Pos} (hg : Gl X x) (hm : X.mg x = none) (hv : bootBuiltins x = some u) (r : RelV v u) (hn : x ≠ "__name__" := by decide) (hd : (x == ("__debug__" : Str)) = false := by decide) : PE X (.Name x pos) (tC v) :=
  .mk <| fun _ _ _ H _ I h => ld_blt I hg hm hv ⟨v, H, I, r, h⟩ hn hd
def t2I (ta tb : TE) (k : Int → Int → Hp → Prop) : St → Hp → Prop := fun σ H => ta σ H fun x H1 => tb σ H1 fun y H2 => ∃ i j, x = .int i ∧ y = .int j ∧ k i j H2
def tAdd (ta tb : TE) : TE := fun σ H Q => t2I ta tb (fun i j H2 => Q (.int (i + j)) H2) σ H
def tSub (ta tb : TE) : TE := fun σ H Q => t2I ta tb (fun i j H2 => Q (.int (i - j)) H2) σ H
def tMul (ta tb : TE) : TE := fun σ H Q => t2I ta tb (fun i j H2 => (-(2 ^ 64) < i ∧ i < 2 ^ 64) ∧ Q (.int (i * j)) H2) σ H
variable {a b : Expr} {ta tb : TE} {pos : Pos}
def PC (X : Cx) (op : CmpOp) (a b : Expr) (t : TE) : Prop :=
  ∀ (pins : List (Addr × Obj)) (s : Shared) (σ : St) (H : Hp) (Q : VK), Inv X pins σ H s → t σ H Q →
    wpAny (model X.prog X.w) X.A (eval a X.env) (fun v s₁ => wpAny (model X.prog X.w) X.A (eval b X.env) (fun u s₂ => wpAny (model X.prog X.w) X.A (compareOp op v u) (EP X pins σ Q) X.xe s₂) X.xe s₁) X.xe s
def tCmp (p : Int → Int → Bool) (ta tb : TE) : TE := fun σ H Q => t2I ta tb (fun i j H2 => Q (.bl (p i j)) H2) σ H
abbrev tLt : TE → TE → TE := tCmp fun i j => decide (i < j)
abbrev tLe : TE → TE → TE := tCmp fun i j => decide (i ≤ j)
abbrev tGt : TE → TE → TE := tCmp fun i j => decide (j < i)
abbrev tGe : TE → TE → TE := tCmp fun i j => decide (j ≤ i)
abbrev tEqI : TE → TE → TE := tCmp fun i j => decide (i = j)
abbrev tNeI : TE → TE → TE := tCmp fun i j => !decide (i = j)
def tIsN (ta : TE) : TE := fun σ H Q => ta σ H fun x H1 => Q (.bl (decide (x = .non))) H1
def tNotN (ta : TE) : TE := fun σ H Q => ta σ H fun x H1 => Q (.bl (!decide (x = .non))) H1
def tB (t : TE) : TT := fun σ H Q => t σ H fun x H1 => ∃ c, x = .bl c ∧ Q c H1
variable {tA tB' : TT} {rest : List Expr}
def tAnd (t u : TT) : TT := fun σ H Q => t σ H fun c H1 => if c = true then u σ H1 Q else Q false H1
def tOr (t u : TT) : TT := fun σ H Q => t σ H fun c H1 => if c = true then Q true H1 else u σ H1 Q
def tNot (t : TT) : TT := fun σ H Q => t σ H fun c H1 => Q (!c) H1
theorem pw_and1 (ha : PT X a tA) : PW X (.BoolOp .And [a] pos) tA := by
  (first | refine ⟨?_⟩ | skip); intro wh pins s σ H Q I h
  refine isTrue_and (thn (ha pins s σ H Q I h) fun c s1 e => ?_)
  cases c with
  | true => exact isTrue_and_nil e
  | false => exact e
theorem pw_or1 (ha : PT X a tA) : PW X (.BoolOp .Or [a] pos) tA := by
  (first | refine ⟨?_⟩ | skip); intro wh pins s σ H Q I h
  refine isTrue_or (thn (ha pins s σ H Q I h) fun c s1 e => ?_)
  cases c with
  | false => exact isTrue_or_nil e
  | true => exact e
theorem pw_and (ha : PT X a tA) (hb : PW X (.BoolOp .And (b :: rest) pos) tB') : PW X (.BoolOp .And (a :: b :: rest) pos) (tAnd tA tB') := by
  (first | refine ⟨?_⟩ | skip); intro wh pins s σ H Q I h
  refine isTrue_and (thn (ha pins s σ H _ I h) fun c s1 ⟨H1, I1, q1⟩ => ?_)
  cases c with
  | true => exact hb wh pins s1 σ H1 Q I1 q1
  | false => exact ⟨H1, I1, q1⟩
theorem pw_or (ha : PT X a tA) (hb : PW X (.BoolOp .Or (b :: rest) pos) tB') : PW X (.BoolOp .Or (a :: b :: rest) pos) (tOr tA tB') := by
  (first | refine ⟨?_⟩ | skip); intro wh pins s σ H Q I h
  refine isTrue_or (thn (ha pins s σ H _ I h) fun c s1 ⟨H1, I1, q1⟩ => ?_)
  cases c with
  | true => exact ⟨H1, I1, q1⟩
  | false => exact hb wh pins s1 σ H1 Q I1 q1
theorem pt_not (ha : PT X a tA) : PT X (.UnaryOp .Not a pos) (tNot tA) := by
  (first | refine ⟨?_⟩ | skip); intro pins s σ H Q I h
  exact isTrue_not (ha pins s σ H (fun c H1 => Q (!c) H1) I h)
def tAndV (ta tb : TE) : TE := fun σ H Q => ta σ H fun x H1 => ∃ c, x = .bl c ∧ if c = true then tb σ H1 Q else Q (.bl false) H1
def tOrV (ta tb : TE) : TE := fun σ H Q => ta σ H fun x H1 => ∃ c, x = .bl c ∧ if c = true then Q (.bl true) H1 else tb σ H1 Q
def tNotV (ta : TE) : TE := fun σ H Q => ta σ H fun x H1 => ∃ c, x = .bl c ∧ Q (.bl (!c)) H1
theorem pe_one {op} {t : TE} (h : PE X a t) : PE X (.BoolOp op [a] pos) t := .mk <| fun pins s σ H Q I hw => BoolOp_one (h pins s σ H Q I hw)
theorem pe_and (ha : PE X a ta) (hb : PE X (.BoolOp .And (b :: rest) pos) tb) : PE X (.BoolOp .And (a :: b :: rest) pos) (tAndV ta tb) := by
  (first | refine ⟨?_⟩ | skip); intro pins s σ H Q I h
  refine BoolOp_and (thn (ha pins s σ H _ I h) fun v s1 ⟨x, H1, I1, r1, q1⟩ => ?_)
  obtain ⟨c, rfl, q1⟩ := q1
  cases r1
  refine wpAny_truthy_bool ?_
  cases c with
  | true => exact hb pins s1 σ H1 Q I1 q1
  | false => exact ⟨.bl false, H1, I1, rfl, q1⟩
theorem pe_or (ha : PE X a ta) (hb : PE X (.BoolOp .Or (b :: rest) pos) tb) : PE X (.BoolOp .Or (a :: b :: rest) pos) (tOrV ta tb) := by
  (first | refine ⟨?_⟩ | skip); intro pins s σ H Q I h
  refine BoolOp_or (thn (ha pins s σ H _ I h) fun v s1 ⟨x, H1, I1, r1, q1⟩ => ?_)
  obtain ⟨c, rfl, q1⟩ := q1
  cases r1
  refine wpAny_truthy_bool ?_
  cases c with
  | false => exact hb pins s1 σ H1 Q I1 q1
  | true => exact ⟨.bl true, H1, I1, rfl, q1⟩
theorem pe_not (ha : PE X a ta) : PE X (.UnaryOp .Not a pos) (tNotV ta) := by
  (first | refine ⟨?_⟩ | skip); intro pins s σ H Q I h
  refine UnaryOp_ (thn (ha pins s σ H _ I h) fun v s1 ⟨x, H1, I1, r1, q1⟩ => ?_)
  obtain ⟨c, rfl, q1⟩ := q1
  cases r1
  exact not_of (wpAny_truthy_bool ⟨.bl (!c), H1, I1, rfl, q1⟩)
def tIf (t : TT) (ta tb : TE) : TE := fun σ H Q => t σ H fun c H1 => if c = true then ta σ H1 Q else tb σ H1 Q
theorem pe_ifExp {c : Expr} (hc : PT X c tA) (ha : PE X a ta) (hb : PE X b tb) : PE X (.IfExp c a b pos) (tIf tA ta tb) := by
  (first | refine ⟨?_⟩ | skip); intro pins s σ H Q I h
  refine wpAny_IfExp (thn (hc pins s σ H _ I h) fun d s1 ⟨H1, I1, q1⟩ => ?_)
  cases d with
  | true => exact ha pins s1 σ H1 Q I1 q1
  | false => exact hb pins s1 σ H1 Q I1 q1
end
end L2
namespace L2
open PySem PySem.Spec PyProof.Rows
def SqL (K : PySem.W.Frag) (H : Hp) (a : Addr) (xs : List V) : Prop :=
  Rd H a (.lst xs) ∨
    ∃ (o : Obj) (its : Array Value) (n : Nat), K.lookup a = some o ∧ o.cls = .type "list" ∧ o.dict = none ∧ o.data = .seq its n ∧ its.size ≤ sizeLine ∧ Vals xs its.toList
def SqT (K : PySem.W.Frag) (H : Hp) (a : Addr) (xs : List V) : Prop :=
  Rd H a (.tup xs) ∨
    ∃ (o : Obj) (its : Array Value) (n : Nat), K.lookup a = some o ∧ o.cls = .type "tuple" ∧ o.data = .seq its n ∧ its.size ≤ sizeLine ∧ Vals xs its.toList
def absV : Value → Option V
  | .none => some .non
  | .bool b => some (.bl b)
  | .int i _ => some (.int i)
  | .str x _ => some (.str x)
  | .bytes b _ => some (.byt b)
  | .float b _ => some (.flt b)
  | .ref a => some (.ref a)
  | .type n => some (.ty n)
  | _ => none
theorem RelV.abs {x : V} {u : Value} (r : RelV x u) : absV u = some x := by
  cases x with
  | non => cases r; rfl
  | bl _ => cases r; rfl
  | int _ => obtain ⟨t, rfl⟩ := r; rfl
  | str _ => obtain ⟨t, rfl⟩ := r; rfl
  | byt _ => obtain ⟨t, rfl⟩ := r; rfl
  | flt _ => obtain ⟨t, rfl⟩ := r; rfl
  | ref _ => cases r; rfl
  | ty _ => cases r; rfl
theorem RelV.inj {x y : V} {u : Value} (r : RelV x u) (q : RelV y u) : x = y := Option.some.inj (r.abs.symm.trans q.abs)
theorem Vals.inj : ∀ {xs ys : List V} {us : List Value}, Vals xs us → Vals ys us → xs = ys
  | _, _, _, .nil, .nil => rfl
  | _, _, _, .cons r t, .cons r' t' => by rw [r.inj r', Vals.inj t t']
section
variable {X : Cx} {pins : List (Addr × Obj)} {σ : St} {H : Hp} {s : Shared} {a : Addr} {xs ys : List V}
theorem SqL.of {K : PySem.W.Frag} (h : H a = some (.lst xs)) : SqL K H a xs := .inl (.inl h)
theorem SqT.of {K : PySem.W.Frag} (h : H a = some (.tup xs)) : SqT K H a xs := .inl (.inl h)
theorem Inv.list (I : Inv X pins σ H s) (h : SqL X.K H a xs) : ∃ its : List Value, Vals xs its ∧ PlainL s.heap a its.toArray ∧ xs.length ≤ sizeLine := by
  rcases h with h | ⟨o, its, n, hk, hc, hd, hs, hz, r⟩
  · obtain ⟨z, its, n, r, e⟩ := h.ok I.hok
    exact ⟨its, r, ⟨_, n, e, rfl, rfl, rfl⟩, z⟩
  · refine ⟨its.toList, r, ⟨o, n, I.kIn a o hk, hc, hd, by simpa using hs⟩, ?_⟩
    have e := r.length
    simp only [Array.length_toList] at e
    omega
theorem Inv.tuple (I : Inv X pins σ H s) (h : SqT X.K H a xs) : ∃ its : List Value, Vals xs its ∧ IsTup s.heap a its.toArray ∧ xs.length ≤ sizeLine := by
  rcases h with h | ⟨o, its, n, hk, hc, hs, hz, r⟩
  · obtain ⟨z, its, r, p⟩ := h.ok I.hok
    exact ⟨its, r, p, z⟩
  · refine ⟨its.toList, r, ⟨o, I.kIn a o hk, hc, n, by simpa using hs⟩, ?_⟩
    have e := r.length
    simp only [Array.length_toList] at e
    omega
theorem Inv.list_inj (I : Inv X pins σ H s) (h : SqL X.K H a xs) (h' : SqL X.K H a ys) : xs = ys := by
  obtain ⟨its, r, ⟨o, n, e, _, _, d⟩, _⟩ := I.list h
  obtain ⟨its', r', ⟨o', n', e', _, _, d'⟩, _⟩ := I.list h'
  rw [e] at e'; cases e'
  rw [d] at d'
  injection d' with d1 _
  have : its = its' := by simpa using congrArg Array.toList d1
  subst this
  exact r.inj r'
theorem Inv.tuple_inj (I : Inv X pins σ H s) (h : SqT X.K H a xs) (h' : SqT X.K H a ys) : xs = ys := by
  obtain ⟨its, r, ⟨o, e, _, n, d⟩, _⟩ := I.tuple h
  obtain ⟨its', r', ⟨o', e', _, n', d'⟩, _⟩ := I.tuple h'
  rw [e] at e'; cases e'
  rw [d] at d'
  injection d' with d1 _
  have : its = its' := by simpa using congrArg Array.toList d1
  subst this
  exact r.inj r'
end
abbrev Cx.wish (X : Cx) (E : Value → Shared → Prop) : Cx := { X with xe := E }
abbrev Cx.nox (X : Cx) : Cx := X.wish fun _ _ => False
theorem Cx.Ok.wish {X : Cx} (ok : X.Ok) (E : Value → Shared → Prop) : (X.wish E).Ok :=
  ⟨ok.mod, ok.kind, ok.glob, ok.blt, ok.above, ok.inj, ok.has, ok.cab, ok.hd, ok.frames, ok.stk, ok.exf, ok.bs, ok.bsz, ok.noex, ok.exfs, ok.funs, ok.frf⟩
theorem Cx.Ok.unwish {X : Cx} {E : Value → Shared → Prop} (ok : (X.wish E).Ok) : X.Ok :=
  ⟨ok.mod, ok.kind, ok.glob, ok.blt, ok.above, ok.inj, ok.has, ok.cab, ok.hd, ok.frames, ok.stk, ok.exf, ok.bs, ok.bsz, ok.noex, ok.exfs, ok.funs, ok.frf⟩
section
variable {X : Cx} {pins : List (Addr × Obj)} {σ : St} {H : Hp} {s : Shared} {E : Value → Shared → Prop}
theorem Inv.wish (I : Inv X pins σ H s) (E : Value → Shared → Prop) : Inv (X.wish E) pins σ H s := ⟨I.ok.wish E, I.os, I.bare, I.base, I.loc, I.cell, I.free, I.freeC, I.pin, I.hok, I.len⟩
theorem Inv.unwish (I : Inv (X.wish E) pins σ H s) : Inv X pins σ H s := ⟨I.ok.unwish, I.os, I.bare, I.base, I.loc, I.cell, I.free, I.freeC, I.pin, I.hok, I.len⟩
theorem SP.unwish {D : Ends} {f : Flow} {s' : Shared} (h : SP (X.wish E) pins D f s') : SP X pins D f s' := by
  cases f with
  | next => obtain ⟨σ', H', I, q⟩ := h; exact ⟨σ', H', I.unwish, q⟩
  | brk => obtain ⟨σ', H', I, q⟩ := h; exact ⟨σ', H', I.unwish, q⟩
  | cont => obtain ⟨σ', H', I, q⟩ := h; exact ⟨σ', H', I.unwish, q⟩
  | ret u => obtain ⟨v, σ', H', I, r, q⟩ := h; exact ⟨v, σ', H', I.unwish, r, q⟩
theorem PE.nox {e : Expr} {t : TE} (h : PE X.nox e t) : PE X e t := .mk <| fun pins s σ H Q I hw =>
  wpAny_mono (h pins s σ H Q (I.wish _) hw) (fun _ _ ⟨v, H', I', r, q⟩ => ⟨v, H', I'.unwish, r, q⟩) fun _ _ z => False.elim z
theorem PT.nox {e : Expr} {t : TT} (h : PT X.nox e t) : PT X e t := .mk <| fun pins s σ H Q I hw =>
  wpAny_mono (h pins s σ H Q (I.wish _) hw) (fun _ _ ⟨H', I', q⟩ => ⟨H', I'.unwish, q⟩) fun _ _ z => False.elim z
theorem PSs.nox {st : List Stmt} {t : TS} (h : PSs X.nox st t) : PSs X st t := .mk <| fun pins s σ H D I hw =>
  wpAny_mono (h pins s σ H D (I.wish _) hw) (fun _ _ q => q.unwish) fun _ _ z => False.elim z
end
section
variable {X : Cx} {st : Stmt} {rest : List Stmt} {t u : TS} {e : Expr} {te : TE} {pos : Pos}
def tNext : TS := fun D σ H => D.nx σ H
def tSeq (t u : TS) : TS := fun D σ H => t { D with nx := u D } σ H
theorem pss_nil : PSs X [] tNext := .mk <| fun _ _ σ H _ I h => wpAny_execs_nil ⟨σ, H, I, h⟩
theorem pss_cons (h1 : PS X st t) (h2 : PSs X rest u) : PSs X (st :: rest) (tSeq t u) := by
  (first | refine ⟨?_⟩ | skip); intro pins s σ H D I h
  refine wpAny_execs_cons (thn (h1 pins s σ H { D with nx := u D } I h) fun f s1 q => ?_)
  cases f with
  | next =>
    obtain ⟨σ', H', I', q⟩ := q
    exact h2 pins s1 σ' H' D I' q
  | ret v => exact q
  | brk => exact q
  | cont => exact q
theorem pss_one (h1 : PS X st t) : PSs X [st] t := by
  (first | refine ⟨?_⟩ | skip); intro pins s σ H D I h
  refine wpAny_execs_cons (thn (h1 pins s σ H D I h) fun f s1 q => ?_)
  cases f with
  | next => exact wpAny_execs_nil q
  | ret v => exact q
  | brk => exact q
  | cont => exact q
def tBreak : TS := fun D σ H => D.bk σ H
def tCont : TS := fun D σ H => D.ct σ H
theorem Inv.quiet {pins : List (Addr × Obj)} {σ : St} {H : Hp} {s : Shared} (I : Inv X pins σ H s) : interactive X.env = false := by simp [interactive, I.ok.kind]
def tDrop (te : TE) : TS := fun D σ H => te σ H fun _ H1 => D.nx σ H1
theorem ps_expr (he : PE X e te) (hs : swapsWith e none pos.line X.env = pure false := by rfl) : PS X (.Expr e pos) (tDrop te) := by
  (first | refine ⟨?_⟩ | skip); intro pins s σ H D I h
  exact wpAny_Expr_any (thn (he pins s σ H _ I h) fun v s1 ⟨x, H1, I1, r1, q1⟩ => ⟨σ, H1, I1, q1⟩) I.quiet hs
def tRet (te : TE) : TS := fun D σ H => te σ H D.rt
theorem ps_ret (he : PE X e te) : PS X (.Return (some e) pos) (tRet te) := by
  (first | refine ⟨?_⟩ | skip); intro pins s σ H D I h
  exact wpAny_Return_some (thn (he pins s σ H _ I h) fun v s1 ⟨x, H1, I1, r1, q1⟩ => ⟨x, σ, H1, I1, r1, q1⟩)
def tRetN : TS := fun D _ H => D.rt .non H
def tIfS (c : TT) (t u : TS) : TS := fun D σ H => c σ H fun b H1 => if b = true then t D σ H1 else u D σ H1
theorem ps_if {c : Expr} {a b : List Stmt} {tc : TT} (hc : PT X c tc) (ha : PSs X a t) (hb : PSs X b u) : PS X (.If c a b pos) (tIfS tc t u) := by
  (first | refine ⟨?_⟩ | skip); intro pins s σ H D I h
  refine wpAny_If (thn (hc pins s σ H _ I h) fun d s1 ⟨H1, I1, q1⟩ => ?_)
  cases d with
  | true => exact ha pins s1 σ H1 D I1 q1
  | false => exact hb pins s1 σ H1 D I1 q1
def tNever : TS := fun _ _ _ => False
end
abbrev TG := V → St → Hp → (St → Hp → Prop) → Prop
abbrev TGs := List V → St → Hp → (St → Hp → Prop) → Prop
def PG (X : Cx) (target : Expr) (t : TG) : Prop :=
  ∀ (pins : List (Addr × Obj)) (s : Shared) (σ : St) (H : Hp) (v : V) (u : Value) (Q : St → Hp → Prop), Inv X pins σ H s → RelV v u → t v σ H Q →
    wpAny (model X.prog X.w) X.A (assign target X.env u) (fun _ s' => ∃ σ' H', Inv X pins σ' H' s' ∧ Q σ' H') X.xe s
def PGs (X : Cx) (ts : List Expr) (t : TGs) : Prop :=
  ∀ (pins : List (Addr × Obj)) (s : Shared) (σ : St) (H : Hp) (vs : List V) (us : List Value) (Q : St → Hp → Prop), Inv X pins σ H s → Vals vs us → t vs σ H Q →
    wpAny (model X.prog X.w) X.A (assignInOrder ((assignEach ts X.env).map (·.2)) us) (fun _ s' => ∃ σ' H', Inv X pins σ' H' s' ∧ Q σ' H') X.xe s
abbrev TSet := V → V → V → Hp → (Hp → Prop) → Prop
def PSet (X : Cx) (t : TSet) : Prop :=
  ∀ (pins : List (Addr × Obj)) (s : Shared) (σ : St) (H : Hp) (o i v : V) (ov iv u : Value) (Q : Hp → Prop), Inv X pins σ H s → RelV o ov → RelV i iv → RelV v u → t o i v H Q →
    wpAny (model X.prog X.w) X.A (setItem ov iv u) (fun _ s' => ∃ H', Inv X pins σ H' s' ∧ Q H') X.xe s
abbrev TIp := V → V → Hp → VK → Prop
def PIp (X : Cx) (op : Operator) (t : TIp) : Prop :=
  ∀ (pins : List (Addr × Obj)) (s : Shared) (σ : St) (H : Hp) (x y : V) (v u : Value) (Q : VK), Inv X pins σ H s → RelV x v → RelV y u → t x y H Q →
    wpAny (model X.prog X.w) X.A (inplaceOp op v u) (EP X pins σ Q) X.xe s
section
variable {X : Cx} {pos : Pos}
def gName (i : Nat) : TG := fun v σ H Q => Q (σ.set i (some v)) H
theorem pg_name {i : Nat} {x : Str} (hN : X.N.Nodup) (hi : X.N[i]? = some x) (hx : Loc X.env.scope x) (hf : X.fn x = true ∨ X.env.scope.names.lookup x = some .local := by first | exact .inl rfl | exact .inr rfl | assumption) : PG X (.Name x pos) (gName i) := by
  (first | refine ⟨?_⟩ | skip); intro pins s σ H v u Q I r h
  exact wpAny_assign_Name (store_ok I hN hi hx r (fun s' I' => ⟨_, H, I', h⟩) hf)
def gNil : TGs := fun vs σ H Q => vs = [] ∧ Q σ H
def gCons (t : TG) (u : TGs) : TGs := fun vs σ H Q => ∃ v r, vs = v :: r ∧ t v σ H fun σ' H' => u r σ' H' Q
def gTup (K : PySem.W.Frag) (n : Nat) (t : TGs) : TG := fun v σ H Q => ∃ a xs, v = .ref a ∧ SqT K H a xs ∧ xs.length = n ∧ t xs σ H Q
def gSub (to ti : TE) (t : TSet) : TG := fun v σ H Q => to σ H fun o H1 => ti σ H1 fun i H2 => t o i v H2 fun H3 => Q σ H3
theorem pg_sub {o i : Expr} {to ti : TE} {t : TSet} (ho : PE X o to) (hi : PE X i ti) (hs : PSet X t)
    (ha : ∀ v, assign (.Subscript o i pos) X.env v = (do
      let ov ← holding [v] (eval o X.env)
      let iv ← holding [v, ov] (eval i X.env)
      standAt pos
      holding [v, ov, iv] (setItem ov iv v)
      release [v, ov, iv] []) := by intro _; rfl) : PG X (.Subscript o i pos) (gSub to ti t) := by
  (first | refine ⟨?_⟩ | skip); intro pins s σ H v u Q I r h
  rw [ha]
  refine wpAny_bind (wpAny_holding (thn (ho pins s σ H _ I h) fun ov s1 ⟨x, H1, I1, r1, q1⟩ => ?_))
  refine wpAny_bind (wpAny_holding (thn (hi pins s1 σ H1 _ I1 q1) fun iv s2 ⟨y, H2, I2, r2, q2⟩ => ?_))
  refine wpAny_bind (wpAny_standAt (wpAny_bind (wpAny_holding (thn (hs pins s2 σ H2 x y v ov iv u _ I2 r1 r2 r q2) fun _ s3 ⟨H3, I3, q3⟩ => ?_))))
  exact wpAny_release ⟨σ, H3, I3, q3⟩
def tAsg (te : TE) (g : TG) : TS := fun D σ H => te σ H fun x H1 => g x σ H1 D.nx
theorem ps_asg {tg e : Expr} {te : TE} {g : TG} (he : PE X e te) (hg : PG X tg g) (hs : swapsWithSole [tg] e pos.line X.env = pure false := by rfl) (hw : swappedStores [tg] e X.env = pure none := by rfl)
    (h1 : (assignEach [tg] X.env).map (·.2) = [assign tg X.env] := by rfl) : PS X (.Assign [tg] e pos) (tAsg te g) := by
  (first | refine ⟨?_⟩ | skip); intro pins s σ H D I h
  refine wpAny_Assign_stores (thn (he pins s σ H _ I h) fun v s1 ⟨x, H1, I1, r1, q1⟩ => ?_) hs hw
  rw [h1]
  exact thn (hg pins s1 σ H1 x v _ I1 r1 q1) fun _ s2 q => q
theorem ps_set {i : Nat} {x : Str} {e : Expr} {te : TE} {pos' : Pos} (hN : X.N.Nodup) (hi : X.N[i]? = some x) (hx : Loc X.env.scope x) (he : PE X e te) (hs : swapsWith e (some (.Name x pos')) pos.line X.env = pure false := by rfl) (hf : X.fn x = true ∨ X.env.scope.names.lookup x = some .local := by first | exact .inl rfl | exact .inr rfl | assumption) :
    PS X (.Assign [.Name x pos'] e pos) (tAsg te (gName i)) := by
  (first | refine ⟨?_⟩ | skip); intro pins s σ H D I h
  refine wpAny_Assign_Name (thn (he pins s σ H _ I h) fun v s1 ⟨y, H1, I1, r1, q1⟩ => ?_) hs
  exact store_ok I1 hN hi hx r1 (fun s2 I2 => ⟨_, H1, I2, q1⟩) hf
def tPar (i j : Nat) (ta : TA) : TS := fun D σ H => ta σ H fun vs H1 => ∃ v w, vs = [v, w] ∧ D.nx ((σ.set i (some v)).set j (some w)) H1
def tAug (i : Nat) (te : TE) (ti : TIp) : TS := fun D σ H => ∃ x, σ[i]? = some (some x) ∧ te σ H fun y H1 => ti x y H1 fun z H2 => D.nx (σ.set i (some z)) H2
def tAugS (to ti te : TE) (tget : V → V → Hp → VK → Prop) (tip : TIp) (tset : TSet) : TS := fun D σ H => to σ H fun o H1 => ti σ H1 fun i H2 => tget o i H2 fun x H3 => te σ H3 fun y H4 => tip x y H4 fun z H5 => tset o i z H5 fun H6 => D.nx σ H6
def PGet (X : Cx) (t : V → V → Hp → VK → Prop) : Prop :=
  ∀ (pins : List (Addr × Obj)) (s : Shared) (σ : St) (H : Hp) (o i : V) (ov iv : Value) (Q : VK), Inv X pins σ H s → RelV o ov → RelV i iv → t o i H Q →
    wpAny (model X.prog X.w) X.A (getItem ov iv) (EP X pins σ Q) X.xe s
def ipI (f : Int → Int → Int) : TIp := fun x y H Q => ∃ i j, x = .int i ∧ y = .int j ∧ Q (.int (f i j)) H
end
section
variable {X : Cx} {pos : Pos}
def tWhile (c : TT) (tb : TS) : TS := fun D σ H => ∃ W : Nat → St → Hp → Prop, (∃ m, W m σ H) ∧ ∀ m σ H, W m σ H →
  c σ H fun b H1 => if b = true then ∃ N : St → Hp → Prop, (∀ σ' H', N σ' H' → ∃ m', m' < m ∧ W m' σ' H') ∧ tb { D with nx := N, ct := N, bk := D.nx } σ H1 else D.nx σ H1
end
structure It where
  go : Nat → Hp → Prop
  yld : Nat → Hp → V → Hp → Prop
  stop : Nat → Hp → Prop
def FpOk (X : Cx) (pins : List (Addr × Obj)) (H : Hp) (b : Addr) : Prop :=
  H b = none ∧ b ≠ X.env.locals ∧ b ∉ X.fs ∧ (b ∈ X.ex ∨ X.s₀.heap.objs.size ≤ b) ∧ (∀ x c, X.env.cells.lookup x = some c → c ≠ b) ∧ ∀ p ∈ X.pn ++ pins, p.1 ≠ b
theorem Inv.fpOk {X : Cx} {pins : List (Addr × Obj)} {σ : St} {H H' : Hp} {s : Shared} {b : Addr} (I : Inv X pins σ H s) (hb : s.heap.objs.size ≤ b) (hn : H' b = none) : FpOk X pins H' b := by
  refine ⟨hn, Nat.ne_of_gt (Nat.lt_of_lt_of_le I.lt hb), I.nofs hb, .inr (Nat.le_trans I.sz hb), fun x c e z => ?_, fun p hp z => ?_⟩
  · obtain ⟨v, q⟩ := I.cell x c e
    exact absurd (Nat.lt_of_lt_of_le q.lt (by rw [z]; exact hb)) (Nat.lt_irrefl _)
  · exact absurd (Nat.lt_of_lt_of_le (Heap.lt_size (I.pin p hp).1) (by rw [z]; exact hb)) (Nat.lt_irrefl _)
structure Turn (P : Program) (w : World) (K : PySem.W.Frag) (tg : Expr) (J : It) (fp : List Addr) (it : Addr) (tn : Nat → Heap → Prop) : Prop where
  mem : it ∈ fp
  obj : ∀ i h, tn i h → ∀ b ∈ fp, ∃ o, h.get? b = some o ∧ ∀ v, o.data ≠ .cell v
  keep : ∀ i h h', tn i h → (∀ b ∈ fp, ∀ o, h.get? b = some o → h'.get? b = some o) → tn i h'
  item : ∀ (X : Cx), X.prog = P → X.w = w → X.K = K → X.calm = true → ∀ (i : Nat) (pins : List (Addr × Obj)) (s : Shared) (σ : St) (H : Hp) (E : Value → Shared → Prop), Inv X pins σ H s → (∀ b ∈ fp, FpOk X pins H b) → tn i s.heap → J.go i H →
    wpAny (model P w) X.A (pyNext (.ref it)) (fun r s1 => ∃ u, r = some u ∧
      wpAny (model P w) X.A (letOwnedTupleGo tg (.ref it) u) (fun _ s2 => ∃ x H', Inv X pins σ H' s2 ∧ RelV x u ∧ J.yld i H x H' ∧ tn (i + 1) s2.heap ∧ ∀ b ∈ fp, H' b = none) E s1) E s
  done : ∀ (X : Cx), X.prog = P → X.w = w → X.K = K → X.calm = true → ∀ (i : Nat) (pins : List (Addr × Obj)) (s : Shared) (σ : St) (H : Hp) (E : Value → Shared → Prop), Inv X pins σ H s → (∀ b ∈ fp, FpOk X pins H b) → tn i s.heap → J.stop i H →
    wpAny (model P w) X.A (pyNext (.ref it)) (fun r s1 => r = none ∧ Inv X pins σ H s1) E s
  self : ∀ (A : Around) (i : Nat) (s : Shared) (Q : Value → Shared → Prop) (E : Value → Shared → Prop), tn i s.heap → Q (.ref it) s → wpAny (model P w) A (pyIter (.ref it)) Q E s
abbrev TI := St → Hp → (It → Hp → Prop) → Prop
def PIE (X : Cx) (pins : List (Addr × Obj)) (σ : St) (tg : Expr) (R : It → Hp → Prop) (itv : Value) (s2 : Shared) : Prop :=
  ∃ (it : Addr) (fp : List Addr) (tn : Nat → Heap → Prop) (J : It) (H' : Hp), itv = .ref it ∧ Inv X pins σ H' s2 ∧ Turn X.prog X.w X.K tg J fp it tn ∧ tn 0 s2.heap ∧ (∀ b ∈ fp, FpOk X pins H' b) ∧ R J H'
def PI (X : Cx) (tg iter : Expr) (wi : TI) : Prop :=
  ∀ (pins : List (Addr × Obj)) (s : Shared) (σ : St) (H : Hp) (R : It → Hp → Prop), Inv X pins σ H s → wi σ H R →
    wpAny (model X.prog X.w) X.A (eval iter X.env) (fun v s1 => wpAny (model X.prog X.w) X.A (pyIter v) (PIE X pins σ tg R) X.xe s1) X.xe s
theorem go_of {M : Model} {A : Around} {E : Value → Shared → Prop} {s : Shared} {tg : Expr} {it : Addr} {u : Value} {o : Obj} {n : String} {vs : Array Value} {Q : Unit → Shared → Prop} (ho : s.heap.get? it = some o) (hc : o.cls = .type n) (hd : o.data = .fields vs)
    (hn : ["enumerate", "zip", "dict_itemiterator", "dict_reverseitemiterator", "odict_iterator", "itertools.zip_longest", "itertools.pairwise"].contains n = false) (hQ : Q () s) : wpAny M A (letOwnedTupleGo tg (.ref it) u) Q E s := by
  unfold letOwnedTupleGo
  cases tg <;> first
    | exact wpAny_pure hQ
    | (cases u <;> first
        | exact wpAny_pure hQ
        | (refine wpAny_bind (wpAny_load ho ?_)
           rw [hc, hd]
           show wpAny M A (if (["enumerate", "zip", "dict_itemiterator", "dict_reverseitemiterator", "odict_iterator", "itertools.zip_longest", "itertools.pairwise"].contains n && vs[0]? == some (rawInt _)) = true then _ else _) Q E s
           rw [if_neg (by intro h; rw [hn, Bool.false_and] at h; cases h)]
           exact wpAny_pure hQ))
def Itl (K : PySem.W.Frag) (a : Addr) : It :=
  ⟨fun i H => ∃ xs x, SqL K H a xs ∧ xs[i]? = some x, fun i H x H' => H' = H ∧ ∀ xs, SqL K H a xs → xs[i]? = some x, fun i H => ∃ xs, SqL K H a xs ∧ xs.length ≤ i⟩
def Itt (K : PySem.W.Frag) (a : Addr) : It :=
  ⟨fun i H => ∃ xs x, SqT K H a xs ∧ xs[i]? = some x, fun i H x H' => H' = H ∧ ∀ xs, SqT K H a xs → xs[i]? = some x, fun i H => ∃ xs, SqT K H a xs ∧ xs.length ≤ i⟩
def Itr (lo : Int) (n : Nat) : It := ⟨fun i _ => i < n, fun i H x H' => H' = H ∧ x = .int (lo + i), fun i _ => n ≤ i⟩
theorem turn_list {P : Program} {w : World} {K : PySem.W.Frag} {tg : Expr} (a it : Addr) : Turn P w K tg (Itl K a) [it] it (fun i h => h.IsListIter it a i) where
  mem := by simp
  obj := fun i h st b hb => by
    have e : b = it := by simpa using hb
    subst e
    obtain ⟨o, e, c, d⟩ := st
    exact ⟨o, e, fun v z => by rw [d] at z; cases z⟩
  keep := fun i h h' st k => st.at fun o e => k it (by simp) o e
  item := by
    intro X hP hw hK hc i pins s σ H E I hf st hg
    subst hP hw hK
    obtain ⟨xs, x, hq, hx⟩ := hg
    obtain ⟨its, rv, p, hz⟩ := I.list hq
    obtain ⟨u, hu, ru⟩ := rv.get hx
    obtain ⟨f0, f1, f2, f3, f4, f5⟩ := hf it (by simp)
    refine wpAny_pyNext_list_item st p.isList (x := u) (by simpa using hu) fun h' st' sb => ?_
    have I1 : Inv X pins σ H { s with heap := h' } := I.turned (t' := s.toks) (fun b o hb e => (sb.2 b hb).trans e) f0 f1 f3 f4 f5
    obtain ⟨o, e, c, d⟩ := id st'
    exact ⟨u, rfl, go_of (s := { s with heap := h' }) e c d (by decide) ⟨x, H, I1, ru, ⟨rfl, fun ys hy => by rw [I.list_inj hy hq]; exact hx⟩, st', fun b hb => (hf b hb).1⟩⟩
  done := by
    intro X hP hw hK hc i pins s σ H E I hf st hg
    subst hP hw hK
    obtain ⟨xs, hq, hx⟩ := hg
    obtain ⟨its, rv, p, hz⟩ := I.list hq
    obtain ⟨f0, f1, f2, f3, f4, f5⟩ := hf it (by simp)
    have hl := rv.length
    exact wpAny_pyNext_list_end (I.ok.hd hc) st p.isList (by simp; omega) fun h' eb => ⟨rfl, I.turned (t' := s.toks) (fun b o hb e => eb b o hb e) f0 f1 f3 f4 f5⟩
  self := fun _ _ _ _ _ st h => wpAny_pyIter_listiter st h
theorem turn_tuple {P : Program} {w : World} {K : PySem.W.Frag} {tg : Expr} (a it : Addr) : Turn P w K tg (Itt K a) [it] it (fun i h => h.IsTupleIter it a i) where
  mem := by simp
  obj := fun i h st b hb => by
    have e : b = it := by simpa using hb
    subst e
    obtain ⟨o, e, c, d⟩ := st
    exact ⟨o, e, fun v z => by rw [d] at z; cases z⟩
  keep := fun i h h' st k => st.at fun o e => k it (by simp) o e
  item := by
    intro X hP hw hK hc i pins s σ H E I hf st hg
    subst hP hw hK
    obtain ⟨xs, x, hq, hx⟩ := hg
    obtain ⟨its, rv, p, hz⟩ := I.tuple hq
    obtain ⟨u, hu, ru⟩ := rv.get hx
    obtain ⟨f0, f1, f2, f3, f4, f5⟩ := hf it (by simp)
    refine wpAny_pyNext_tuple_item st (show s.heap.IsTuple a its.toArray from p) (x := u) (by simpa using hu) fun h' st' sb => ?_
    have I1 : Inv X pins σ H { s with heap := h' } := I.turned (t' := s.toks) (fun b o hb e => (sb.2 b hb).trans e) f0 f1 f3 f4 f5
    obtain ⟨o, e, c, d⟩ := id st'
    exact ⟨u, rfl, go_of (s := { s with heap := h' }) e c d (by decide) ⟨x, H, I1, ru, ⟨rfl, fun ys hy => by rw [I.tuple_inj hy hq]; exact hx⟩, st', fun b hb => (hf b hb).1⟩⟩
  done := by
    intro X hP hw hK hc i pins s σ H E I hf st hg
    subst hP hw hK
    obtain ⟨xs, hq, hx⟩ := hg
    obtain ⟨its, rv, p, hz⟩ := I.tuple hq
    obtain ⟨f0, f1, f2, f3, f4, f5⟩ := hf it (by simp)
    have hl := rv.length
    exact wpAny_pyNext_tuple_end (I.ok.hd hc) st (show s.heap.IsTuple a its.toArray from p) (by simp; omega) fun h' eb => ⟨rfl, I.turned (t' := s.toks) (fun b o hb e => eb b o hb e) f0 f1 f3 f4 f5⟩
  self := fun _ _ _ _ _ st h => wpAny_pyIter_tupleiter st h
theorem turn_range {P : Program} {w : World} {K : PySem.W.Frag} {tg : Expr} (it : Addr) (lo : Int) (n : Nat) : Turn P w K tg (Itr lo n) [it] it (fun i h => IsRangeIter h it (lo + (i : Nat) * 1) ((n : Int) - (i : Nat)) 1) where
  mem := by simp
  obj := fun i h st b hb => by
    have e : b = it := by simpa using hb
    subst e
    exact ⟨_, st, fun v z => by
      have z' : Data.fields _ = Data.cell v := z
      cases z'⟩
  keep := fun i h h' st k => k it (by simp) _ st
  item := by
    intro X hP hw hK hc i pins s σ H E I hf st hg
    subst hP hw hK
    obtain ⟨f0, f1, f2, f3, f4, f5⟩ := hf it (by simp)
    have W := Walks.range (prog := X.prog) (w := X.w) (I.ok.hd hc) it lo 1 n
    refine W.item i s _ _ hg st fun v h' tk hv st' kk => ?_
    obtain ⟨t, rfl⟩ := hv
    have I1 : Inv X pins σ H { s with heap := h', toks := tk } := I.turned (fun b o hb e => kk b o (by simpa using hb) e) f0 f1 f3 f4 f5
    refine ⟨_, rfl, go_of (s := { s with heap := h', toks := tk }) (n := "range_iterator") st' rfl rfl (by decide) ⟨.int (lo + i), H, I1, ⟨t, ?_⟩, ⟨rfl, rfl⟩, st', fun b hb => (hf b hb).1⟩⟩
    rw [Int.mul_one]
  done := by
    intro X hP hw hK hc i pins s σ H E I hf st hg
    subst hP hw hK
    obtain ⟨f0, f1, f2, f3, f4, f5⟩ := hf it (by simp)
    exact wpAny_pyNext_range_end (I.ok.hd hc) st (by have : n ≤ i := hg; omega) fun h' eb => ⟨rfl, I.turned (t' := s.toks) (fun b o hb e => eb b o hb e) f0 f1 f3 f4 f5⟩
  self := fun _ _ _ _ _ st h => wpAny_pyIter_rangeiter st h
end L2
namespace L2
open PySem PySem.Spec PyProof.Rows
section
variable {X : Cx} {tg : Expr}
def iList (K : PySem.W.Frag) (tl : TE) : TI := fun σ H R => tl σ H fun x H1 => ∃ a, x = .ref a ∧ (∃ xs, SqL K H1 a xs) ∧ R (Itl K a) H1
def iTup (K : PySem.W.Frag) (tl : TE) : TI := fun σ H R => tl σ H fun x H1 => ∃ a, x = .ref a ∧ (∃ xs, SqT K H1 a xs) ∧ R (Itt K a) H1
theorem range_it {pins : List (Addr × Obj)} {σ : St} {H : Hp} {s : Shared} {R : It → Hp → Prop} {E : Value → Shared → Prop} {lo hi : Int} {t u v : Tok} {tk : Nat} (I : Inv X pins σ H s) (h1 : -(2 ^ 62) ≤ lo) (h2 : lo < 2 ^ 62) (h3 : -(2 ^ 62) ≤ hi) (h4 : hi < 2 ^ 62)
    (q : R (Itr lo (hi - lo).toNat) H) : wpAny (model X.prog X.w) X.A (pyIter (.ref s.heap.objs.size)) (PIE X pins σ tg R) E { s with heap := s.heap.push { cls := .type "range", data := .fields #[.int lo t, .int hi u, .int 1 v] }, toks := tk } := by
  refine wpAny_pyIter_range (IsRange.new ..) (small_one h1 h2 h3 h4) ?_
  have I1 : Inv X pins σ H { s with heap := s.heap.push { cls := .type "range", data := .fields #[.int lo t, .int hi u, .int 1 v] }, toks := tk } := I.kept fun b o e => Heap.get?_push_of_some _ e
  refine ⟨(s.heap.push { cls := .type "range", data := .fields #[.int lo t, .int hi u, .int 1 v] }).objs.size, [(s.heap.push { cls := .type "range", data := .fields #[.int lo t, .int hi u, .int 1 v] }).objs.size], _, _, H, rfl,
    I1.kept (t' := tk) fun b o e => Heap.get?_push_of_some _ e, turn_range _ lo (hi - lo).toNat, ?_, fun b hb => ?_, q⟩
  · have e1 : lo + ((0 : Nat) : Int) * 1 = lo := by simp
    have e2 : (((hi - lo).toNat : Nat) : Int) - ((0 : Nat) : Int) = Builtin.Range.rangeSize lo hi 1 := by rw [rangeSize_one]; split <;> omega
    show IsRangeIter _ _ (lo + ((0 : Nat) : Int) * 1) ((((hi - lo).toNat : Nat) : Int) - ((0 : Nat) : Int)) 1
    rw [e1, e2]
    exact Heap.get?_push_size _ rfl
  · have e : b = (s.heap.push { cls := .type "range", data := .fields #[.int lo t, .int hi u, .int 1 v] }).objs.size := by simpa using hb
    subst e
    exact I1.fpOk (Nat.le_refl _) (I1.hok.fresh (Nat.le_refl _))
def iRng1 (ta : TA) : TI := fun σ H R => ta σ H fun vs H1 => ∃ j : Int, vs = [.int j] ∧ -(2 ^ 62) ≤ j ∧ j < 2 ^ 62 ∧ R (Itr 0 j.toNat) H1
def iRng2 (ta : TA) : TI := fun σ H R => ta σ H fun vs H1 => ∃ i j : Int, vs = [.int i, .int j] ∧ (-(2 ^ 62) ≤ i ∧ i < 2 ^ 62 ∧ -(2 ^ 62) ≤ j ∧ j < 2 ^ 62) ∧ R (Itr i (j - i).toNat) H1
theorem pi_range1 {a : Expr} {ta : TA} {p pos : Pos} (hg : Gl X "range") (hm : X.mg "range" = none) (ha : PA X [a] ta) (hs : starEach [a] X.env = [(false, eval a X.env)] := by rfl) : PI X tg (.Call (.Name "range" p) [a] [] pos) (iRng1 ta) := by
  (first | refine ⟨?_⟩ | skip); intro pins s σ H R I h
  refine Call_ (ld_blt I hg hm boot_range (PyProof.Rows.callWith_type1 (thn (ha pos pins s σ H _ I h) fun us s1 ⟨vs, H1, I1, r1, q1⟩ => ?_) hs rfl))
  obtain ⟨j, e, q1, q2, q⟩ := q1
  subst e
  cases r1 with
  | cons r rr =>
    cases rr
    obtain ⟨t, rfl⟩ := r
    exact call_range_1 (range_it I1 (by omega) (by omega) q1 q2 (by simpa using q))
def tFor (wi : TI) (g : TG) (tb : TS) : TS := fun D σ H => wi σ H fun J H1 => ∃ W : Nat → Nat → St → Hp → Prop, (∃ m, W 0 m σ H1) ∧ ∀ i m σ H, W i m σ H →
  (J.stop i H ∧ D.nx σ H) ∨ (J.go i H ∧ ∃ N : St → Hp → Prop, (∀ σ' H', N σ' H' → ∃ m', m' < m ∧ W (i + 1) m' σ' H') ∧ ∀ x H', J.yld i H x H' → g x σ H' fun σ2 H2 => tb { D with nx := N, ct := N, bk := D.nx } σ2 H2)
def pinsAt (fp : List Addr) (h : Heap) : List (Addr × Obj) := fp.filterMap fun b => (h.get? b).map fun o => (b, o)
theorem mem_pinsAt {fp : List Addr} {h : Heap} {b : Addr} {o : Obj} (hb : b ∈ fp) (e : h.get? b = some o) : (b, o) ∈ pinsAt fp h := List.mem_filterMap.mpr ⟨b, hb, by rw [e]; rfl⟩
theorem of_pinsAt {fp : List Addr} {h : Heap} {p : Addr × Obj} (hp : p ∈ pinsAt fp h) : p.1 ∈ fp ∧ h.get? p.1 = some p.2 := by
  obtain ⟨b, hb, e⟩ := List.mem_filterMap.mp hp
  cases q : h.get? b with
  | none => rw [q] at e; cases e
  | some o =>
    rw [q] at e
    have e' : (b, o) = p := Option.some.inj e
    subst e'
    exact ⟨hb, q⟩
theorem Inv.pinned {pins : List (Addr × Obj)} {σ : St} {H : Hp} {s : Shared} {fp : List Addr} (I : Inv X pins σ H s) (hf : ∀ b ∈ fp, FpOk X pins H b) (ho : ∀ b ∈ fp, ∃ o, s.heap.get? b = some o ∧ ∀ v, o.data ≠ .cell v) : Inv X (pins ++ pinsAt fp s.heap) σ H s :=
  I.pins_of fun p hp => (List.mem_append.mp hp).elim (fun z => I.pin p (List.mem_append_right _ z)) fun z => by
    obtain ⟨hb, e⟩ := of_pinsAt z
    obtain ⟨f0, f1, f2, _⟩ := hf p.1 hb
    obtain ⟨o, e', d⟩ := ho p.1 hb
    rw [e] at e'; cases e'
    exact ⟨e, f0, f1, f2, d⟩
theorem Inv.unpinned {pins pl : List (Addr × Obj)} {σ : St} {H : Hp} {s : Shared} (I : Inv X (pins ++ pl) σ H s) : Inv X pins σ H s := I.pins_of fun p hp => I.pin p (List.mem_append_right _ (List.mem_append_left _ hp))
theorem ps_for {iter : Expr} {body : List Stmt} {wi : TI} {g : TG} {tb : TS} {pos : Pos} (hp : PassesOwn (model X.prog X.w) X.A X.env X.xe) (hc : X.calm = true) (hi : PI X tg iter wi) (hg : PG X tg g) (hb : PSs X body tb)
    (hs : ∀ x, foldedSetIterable iter X.env x = pure x := by intro _; rfl) : PS X (.For tg iter body [] pos) (tFor wi g tb) := by
  (first | refine ⟨?_⟩ | skip); intro pins s σ H D I h
  refine wpAny_For (thn (hi pins s σ H _ I h) fun v s1 h1 => thn h1 fun itv s2 h2 => ?_) hs
  obtain ⟨it, fp, tn, J, H2, e, I2, T, st2, f2, W, ⟨m0, w0⟩, turn⟩ := h2
  subst e
  -- what stays true of the iterator's objects through the loop
  have stat : ∀ {H' : Hp}, (∀ b ∈ fp, H' b = none) → ∀ b ∈ fp, FpOk X pins H' b := fun hn b hb => ⟨hn b hb, (f2 b hb).2⟩
  refine codeAny_forLoop_any (fun n s' => ∃ i σ' H', Inv X pins σ' H' s' ∧ tn i s'.heap ∧ (∀ b ∈ fp, H' b = none) ∧ W i n σ' H') ?_ m0 ⟨0, σ, H2, I2, st2, fun b hb => (f2 b hb).1, w0⟩
  rintro n s3 ⟨i, σ3, H3, I3, st3, fr3, w3⟩
  rcases turn i n σ3 H3 w3 with ⟨stop, qn⟩ | ⟨go, N, hN, step⟩
  · refine wpAny_passesOwn hp (thn (T.done X rfl rfl rfl hc i pins s3 σ3 H3 X.xe I3 (stat fr3) st3 stop) fun r s4 ⟨hr, I4⟩ => ?_)
    subst hr
    exact wpAny_execs_nil ⟨σ3, H3, I4, qn⟩
  · refine wpAny_passesOwn hp (thn (T.item X rfl rfl rfl hc i pins s3 σ3 H3 X.xe I3 (stat fr3) st3 go) fun r s4 ⟨u, hr, h4⟩ => ?_)
    subst hr
    refine wpAny_passesOwn hp (thn h4 fun _ s5 ⟨x, H5, I5, r5, y5, st5, fr5⟩ => ?_)
    have I5' := I5.pinned (stat fr5) (T.obj _ _ st5)
    refine wpAny_passesOwn hp (thn (hg _ s5 σ3 H5 x u _ I5' r5 (step x H5 y5)) fun _ s6 ⟨σ6, H6, I6, q6⟩ => ?_)
    refine wpAny_passesOwn hp (thn (hb _ s6 σ6 H6 _ I6 q6) fun f s7 q7 => ?_)
    have again : ∀ {σ7 : St} {H7 : Hp}, Inv X (pins ++ pinsAt fp s5.heap) σ7 H7 s7 → N σ7 H7 → ∃ m, m < n ∧ ∃ i σ' H', Inv X pins σ' H' s7 ∧ tn i s7.heap ∧ (∀ b ∈ fp, H' b = none) ∧ W i m σ' H' := fun {σ7 H7} I7 n7 => by
      obtain ⟨m', hm, w7⟩ := hN σ7 H7 n7
      refine ⟨m', hm, i + 1, σ7, H7, I7.unpinned, T.keep _ _ _ st5 fun b hb o e => (I7.pin (b, o) (List.mem_append_right _ (List.mem_append_right _ (mem_pinsAt hb e)))).1, fun b hb => ?_, w7⟩
      obtain ⟨o, e, d⟩ := T.obj _ _ st5 b hb
      exact (I7.pin (b, o) (List.mem_append_right _ (List.mem_append_right _ (mem_pinsAt hb e)))).2.1
    cases f with
    | next => obtain ⟨σ7, H7, I7, n7⟩ := q7; exact again I7 n7
    | cont => obtain ⟨σ7, H7, I7, n7⟩ := q7; exact again I7 n7
    | brk => obtain ⟨σ7, H7, I7, q7⟩ := q7; exact ⟨σ7, H7, I7.unpinned, q7⟩
    | ret v => obtain ⟨x7, σ7, H7, I7, r7, q7⟩ := q7; exact ⟨x7, σ7, H7, I7.unpinned, r7, q7⟩
end
end L2
namespace L2
open PySem PySem.Spec PyProof.Rows
abbrev R2 := V → V → Hp → VK → Prop
def OpR (X : Cx) (f : Value → Value → Sem Value) (r : R2) : Prop :=
  ∀ (pins : List (Addr × Obj)) (s : Shared) (σ : St) (H : Hp) (x y : V) (v u : Value) (Q : VK), Inv X pins σ H s → RelV x v → RelV y u → r x y H Q →
    wpAny (model X.prog X.w) X.A (f v u) (EP X pins σ Q) X.xe s
def UnR (X : Cx) (f : Value → Sem Value) (r : V → Hp → VK → Prop) : Prop :=
  ∀ (pins : List (Addr × Obj)) (s : Shared) (σ : St) (H : Hp) (x : V) (v : Value) (Q : VK), Inv X pins σ H s → RelV x v → r x H Q →
    wpAny (model X.prog X.w) X.A (f v) (EP X pins σ Q) X.xe s
def CallR (X : Cx) (f : Value) (r : List V → Hp → VK → Prop) : Prop :=
  ∀ (pins : List (Addr × Obj)) (s : Shared) (σ : St) (H : Hp) (xs : List V) (us : List Value) (Q : VK), Inv X pins σ H s → Vals xs us → r xs H Q →
    wpAny (model X.prog X.w) X.A (call f us) (EP X pins σ Q) X.xe s
def TruR (X : Cx) (r : V → Hp → (Bool → Hp → Prop) → Prop) : Prop :=
  ∀ (pins : List (Addr × Obj)) (s : Shared) (σ : St) (H : Hp) (x : V) (v : Value) (Q : Bool → Hp → Prop), Inv X pins σ H s → RelV x v → r x H Q →
    wpAny (model X.prog X.w) X.A (truthy v) (TP X pins σ Q) X.xe s
def tOp (r : R2) (ta tb : TE) : TE := fun σ H Q => ta σ H fun x H1 => tb σ H1 fun y H2 => r x y H2 Q
def tUn (r : V → Hp → VK → Prop) (ta : TE) : TE := fun σ H Q => ta σ H fun x H1 => r x H1 Q
def rI (C : Int → Int → Prop) (g : Int → Int → V) : R2 := fun x y H Q => ∃ i j, x = .int i ∧ y = .int j ∧ C i j ∧ Q (g i j) H
def rI0 (g : Int → Int → V) : R2 := fun x y H Q => ∃ i j, x = .int i ∧ y = .int j ∧ Q (g i j) H
def rU (g : Int → V) : V → Hp → VK → Prop := fun x H Q => ∃ i, x = .int i ∧ Q (g i) H
section
variable {X : Cx} {a b c : Expr} {ta tb tc : TE} {pos : Pos}
theorem binT (ha : PE X a ta) (hb : PE X b tb) {pins : List (Addr × Obj)} {s : Shared} {σ : St} {H : Hp} {R : V → V → Hp → Prop} (I : Inv X pins σ H s)
    (h : ta σ H fun x H1 => tb σ H1 fun y H2 => R x y H2) {Q : Value → Shared → Prop} {f : Value → Value → Sem Value}
    (hf : ∀ v u s2 x y H2, Inv X pins σ H2 s2 → RelV x v → RelV y u → R x y H2 → wpAny (model X.prog X.w) X.A (f v u) Q X.xe s2) :
    wpAny (model X.prog X.w) X.A (eval a X.env) (fun v s₁ => wpAny (model X.prog X.w) X.A (eval b X.env) (fun u s₂ => wpAny (model X.prog X.w) X.A (f v u) Q X.xe s₂) X.xe s₁) X.xe s := by
  refine thn (ha pins s σ H _ I h) fun v s1 ⟨x, H1, I1, r1, q1⟩ => ?_
  refine thn (hb pins s1 σ H1 _ I1 q1) fun u s2 ⟨y, H2, I2, r2, q2⟩ => ?_
  exact hf v u s2 x y H2 I2 r1 r2 q2
theorem pe_op {op : Operator} {r : R2} (ho : OpR X (binaryOp op) r) (ha : PE X a ta) (hb : PE X b tb) : PE X (.BinOp a op b pos) (tOp r ta tb) := by
  (first | refine ⟨?_⟩ | skip); intro pins s σ H Q I h
  exact wpAny_BinOp (binT ha hb I h fun v u s2 x y H2 I2 rx ry q => ho pins s2 σ H2 x y v u Q I2 rx ry q)
theorem pe_un {op : UnaryOp} {r : V → Hp → VK → Prop} (ho : UnR X (unaryOp op) r) (ha : PE X a ta) : PE X (.UnaryOp op a pos) (tUn r ta) := by
  (first | refine ⟨?_⟩ | skip); intro pins s σ H Q I h
  exact UnaryOp_ (thn (ha pins s σ H _ I h) fun v s1 ⟨x, H1, I1, r1, q1⟩ => ho pins s1 σ H1 x v Q I1 r1 q1)
theorem opI {f : Value → Value → Sem Value} {C : Int → Int → Prop} {g : Int → Int → Int}
    (rule : ∀ (i j : Int) (t u : Tok) (s : Shared) (Q : Value → Shared → Prop) (E : Value → Shared → Prop), C i j → Q (.int (g i j) s.toks) { s with toks := s.toks + 1 } → wpAny (model X.prog X.w) X.A (f (.int i t) (.int j u)) Q E s) :
    OpR X f (rI C fun i j => .int (g i j)) := by
  (first | refine ⟨?_⟩ | skip); intro pins s σ H x y v u Q I rx ry h
  obtain ⟨i, j, rfl, rfl, hc, q⟩ := h
  obtain ⟨t, rfl⟩ := rx
  obtain ⟨t', rfl⟩ := ry
  exact rule i j t t' s _ _ hc ⟨.int (g i j), H, I.tok _, ⟨_, rfl⟩, q⟩
theorem opI0 {f : Value → Value → Sem Value} {g : Int → Int → Int}
    (rule : ∀ (i j : Int) (t u : Tok) (s : Shared) (Q : Value → Shared → Prop) (E : Value → Shared → Prop), Q (.int (g i j) s.toks) { s with toks := s.toks + 1 } → wpAny (model X.prog X.w) X.A (f (.int i t) (.int j u)) Q E s) :
    OpR X f (rI0 fun i j => .int (g i j)) := by
  (first | refine ⟨?_⟩ | skip); intro pins s σ H x y v u Q I rx ry h
  obtain ⟨i, j, rfl, rfl, q⟩ := h
  obtain ⟨t, rfl⟩ := rx
  obtain ⟨t', rfl⟩ := ry
  exact rule i j t t' s _ _ ⟨.int (g i j), H, I.tok _, ⟨_, rfl⟩, q⟩
theorem opB0 {f : Value → Value → Sem Value} {g : Int → Int → Bool}
    (rule : ∀ (i j : Int) (t u : Tok) (s : Shared) (Q : Value → Shared → Prop) (E : Value → Shared → Prop), Q (.bool (g i j)) s → wpAny (model X.prog X.w) X.A (f (.int i t) (.int j u)) Q E s) :
    OpR X f (rI0 fun i j => .bl (g i j)) := by
  (first | refine ⟨?_⟩ | skip); intro pins s σ H x y v u Q I rx ry h
  obtain ⟨i, j, rfl, rfl, q⟩ := h
  obtain ⟨t, rfl⟩ := rx
  obtain ⟨t', rfl⟩ := ry
  exact rule i j t t' s _ _ ⟨.bl (g i j), H, I, rfl, q⟩
def CDiv (i j : Int) : Prop := 0 < j ∧ j < 1073741824
def CDivN (i j : Int) : Prop := j ≠ 0 ∧ j.natAbs < 1073741824
def CPow (i j : Int) : Prop := 0 ≤ j ∧ j ≤ 1000000 ∧ i.natAbs < 2 ^ 64
def CMul (i j : Int) : Prop := (-(2 ^ 64) < i ∧ i < 2 ^ 64) ∨ (-(2 ^ 64) < j ∧ j < 2 ^ 64)
theorem CMul.ok {i j : Int} (h : CMul i j) : IntMulOk i j := by
  rcases h with ⟨h1, h2⟩ | ⟨h1, h2⟩
  · exact .of_left (intBits_le_64 h1 h2)
  · exact .of_right (intBits_le_64 h1 h2)
theorem op_add : OpR X (binaryOp .Add) (rI0 fun i j => .int (i + j)) := opI0 fun _ _ _ _ _ _ _ q => add_int q
theorem op_sub : OpR X (binaryOp .Sub) (rI0 fun i j => .int (i - j)) := opI0 fun _ _ _ _ _ _ _ q => sub_int q
theorem op_mul : OpR X (binaryOp .Mult) (rI CMul fun i j => .int (i * j)) := opI fun _ _ _ _ _ _ _ hc q => mul_int q hc.ok
theorem op_fdiv : OpR X (binaryOp .FloorDiv) (rI CDiv fun i j => .int (i / j)) := opI fun i j _ _ _ _ _ hc q => by
  have h1 : (0 : Int) < j := hc.1
  have h2 : j < 1073741824 := hc.2
  exact floordiv_int (by omega) (by rw [Int.fdiv_eq_ediv_of_nonneg i (by omega)]; exact q) (.inl (PyProof.noPylong_small (by omega)))
theorem op_mod : OpR X (binaryOp .Mod) (rI (fun _ j => 0 < j) fun i j => .int (i % j)) := opI fun i j _ _ _ _ _ hc q => by
  have h1 : (0 : Int) < j := hc
  exact mod_int' (by omega) (by rw [Int.fmod_eq_emod_of_nonneg i (by omega)]; exact q)
theorem op_pow : OpR X (binaryOp .Pow) (rI CPow fun i j => .int (i ^ j.toNat)) := opI fun _ _ _ _ _ _ _ hc q => pow_int_small hc.1 hc.2.1 hc.2.2 q
theorem unI {f : Value → Sem Value} {g : Int → Int}
    (rule : ∀ (i : Int) (t : Tok) (s : Shared) (Q : Value → Shared → Prop) (E : Value → Shared → Prop), Q (.int (g i) s.toks) { s with toks := s.toks + 1 } → wpAny (model X.prog X.w) X.A (f (.int i t)) Q E s) :
    UnR X f (rU fun i => .int (g i)) := by
  (first | refine ⟨?_⟩ | skip); intro pins s σ H x v Q I rx h
  obtain ⟨i, rfl, q⟩ := h
  obtain ⟨t, rfl⟩ := rx
  exact rule i t s _ _ ⟨.int (g i), H, I.tok _, ⟨_, rfl⟩, q⟩
theorem un_neg : UnR X (unaryOp .USub) (rU fun i => .int (-i)) := unI fun _ _ _ _ _ q => neg_int q
end
def scal : V → V → Bool
  | .non, .non => true | .non, .int _ => true | .int _, .non => true | .non, .bl _ => true | .bl _, .non => true | .non, .str _ => true | .str _, .non => true
  | .int _, .int _ => true | .bl _, .bl _ => true | .str _, .str _ => true | .byt _, .byt _ => true
  | .int _, .str _ => true | .str _, .int _ => true | .bl _, .str _ => true | .str _, .bl _ => true
  | _, _ => false
def rEq : R2 := fun x y H Q => scal x y = true ∧ Q (.bl (decide (x = y))) H
def rNe : R2 := fun x y H Q => scal x y = true ∧ Q (.bl (!decide (x = y))) H
theorem dec_int {i j : Int} : decide (V.int i = V.int j) = (i == j) := by
  rw [Bool.eq_iff_iff]
  simp
theorem dec_bl {i j : Bool} : decide (V.bl i = V.bl j) = (i == j) := by
  rw [Bool.eq_iff_iff]
  simp
theorem dec_str {i j : Str} : decide (V.str i = V.str j) = (i == j) := by
  rw [Bool.eq_iff_iff]
  simp
theorem dec_byt {i j : Array UInt8} : decide (V.byt i = V.byt j) = (i.toList == j.toList) := by
  rw [Bool.eq_iff_iff]
  cases i
  cases j
  simp
section
variable {X : Cx} {a b c : Expr} {ta tb tc : TE} {pos : Pos}
theorem fin_bl {pins : List (Addr × Obj)} {σ : St} {H : Hp} {s : Shared} {Q : VK} {k k' : Bool} (I : Inv X pins σ H s) (q : Q (.bl k) H) (e : k = k') : EP X pins σ Q (.bool k') s := by
  subst e
  exact ⟨.bl k, H, I, rfl, q⟩
theorem op_eq : OpR X (compareOp .Eq) rEq := by
  (first | refine ⟨?_⟩ | skip); intro pins s σ H x y v u Q I rx ry h
  obtain ⟨hs, q⟩ := h
  cases x with
  | non =>
    cases rx
    cases y with
    | non => cases ry; exact PySem.EqNone.eq_none_none (fin_bl I q (by simp))
    | bl j => cases ry; exact PySem.EqNone.eq_none_bool (fin_bl I q (by simp))
    | int j => obtain ⟨t', rfl⟩ := ry; exact PySem.EqNone.eq_none_int (fin_bl I q (by simp))
    | str j => obtain ⟨t', rfl⟩ := ry; exact PySem.EqNone.eq_none_str (fin_bl I q (by simp))
    | _ => exact absurd (show false = true from hs) Bool.false_ne_true
  | bl i =>
    cases rx
    cases y with
    | non => cases ry; exact PySem.EqNone.eq_bool_none (fin_bl I q (by simp))
    | bl j => cases ry; exact eq_bool (fin_bl I q dec_bl)
    | str j => obtain ⟨t', rfl⟩ := ry; exact PySem.EqMixed.eq_bool_str (fin_bl I q (by simp))
    | _ => exact absurd (show false = true from hs) Bool.false_ne_true
  | int i =>
    obtain ⟨t, rfl⟩ := rx
    cases y with
    | non => cases ry; exact PySem.EqNone.eq_int_none (fin_bl I q (by simp))
    | int j => obtain ⟨t', rfl⟩ := ry; exact eq_int (fin_bl I q dec_int)
    | str j => obtain ⟨t', rfl⟩ := ry; exact PySem.EqMixed.eq_int_str (fin_bl I q (by simp))
    | _ => exact absurd (show false = true from hs) Bool.false_ne_true
  | str i =>
    obtain ⟨t, rfl⟩ := rx
    cases y with
    | non => cases ry; exact PySem.EqNone.eq_str_none (fin_bl I q (by simp))
    | bl j => cases ry; exact PySem.EqMixed.eq_str_bool (fin_bl I q (by simp))
    | int j => obtain ⟨t', rfl⟩ := ry; exact PySem.EqMixed.eq_str_int (fin_bl I q (by simp))
    | str j => obtain ⟨t', rfl⟩ := ry; exact eq_str (fin_bl I q dec_str)
    | _ => exact absurd (show false = true from hs) Bool.false_ne_true
  | byt i =>
    obtain ⟨t, rfl⟩ := rx
    cases y with
    | byt j => obtain ⟨t', rfl⟩ := ry; exact PySem.W.eq_bytes (fin_bl I q dec_byt)
    | _ => exact absurd (show false = true from hs) Bool.false_ne_true
  | _ => cases y <;> exact absurd (show false = true from hs) Bool.false_ne_true
theorem op_ne : OpR X (compareOp .NotEq) rNe := by
  (first | refine ⟨?_⟩ | skip); intro pins s σ H x y v u Q I rx ry h
  obtain ⟨hs, q⟩ := h
  cases x with
  | non =>
    cases rx
    cases y with
    | non => cases ry; exact PySem.EqNone.ne_none_none (fin_bl I q (by simp))
    | bl j => cases ry; exact PySem.EqNone.ne_none_bool (fin_bl I q (by simp))
    | int j => obtain ⟨t', rfl⟩ := ry; exact PySem.EqNone.ne_none_int (fin_bl I q (by simp))
    | str j => obtain ⟨t', rfl⟩ := ry; exact PySem.EqNone.ne_none_str (fin_bl I q (by simp))
    | _ => exact absurd (show false = true from hs) Bool.false_ne_true
  | bl i =>
    cases rx
    cases y with
    | non => cases ry; exact PySem.EqNone.ne_bool_none (fin_bl I q (by simp))
    | bl j => cases ry; exact ne_bool (fin_bl I q (congrArg not dec_bl))
    | str j => obtain ⟨t', rfl⟩ := ry; exact PySem.EqMixed.ne_bool_str (fin_bl I q (by simp))
    | _ => exact absurd (show false = true from hs) Bool.false_ne_true
  | int i =>
    obtain ⟨t, rfl⟩ := rx
    cases y with
    | non => cases ry; exact PySem.EqNone.ne_int_none (fin_bl I q (by simp))
    | int j => obtain ⟨t', rfl⟩ := ry; exact ne_int (fin_bl I q (congrArg not dec_int))
    | str j => obtain ⟨t', rfl⟩ := ry; exact PySem.EqMixed.ne_int_str (fin_bl I q (by simp))
    | _ => exact absurd (show false = true from hs) Bool.false_ne_true
  | str i =>
    obtain ⟨t, rfl⟩ := rx
    cases y with
    | non => cases ry; exact PySem.EqNone.ne_str_none (fin_bl I q (by simp))
    | bl j => cases ry; exact PySem.EqMixed.ne_str_bool (fin_bl I q (by simp))
    | int j => obtain ⟨t', rfl⟩ := ry; exact PySem.EqMixed.ne_str_int (fin_bl I q (by simp))
    | str j => obtain ⟨t', rfl⟩ := ry; exact ne_str (fin_bl I q (congrArg not dec_str))
    | _ => exact absurd (show false = true from hs) Bool.false_ne_true
  | byt i =>
    obtain ⟨t, rfl⟩ := rx
    cases y with
    | byt j => obtain ⟨t', rfl⟩ := ry; exact PySem.W.ne_bytes (fin_bl I q (congrArg not dec_byt))
    | _ => exact absurd (show false = true from hs) Bool.false_ne_true
  | _ => cases y <;> exact absurd (show false = true from hs) Bool.false_ne_true
theorem op_lt : OpR X (compareOp .Lt) (rI0 fun i j => .bl (decide (i < j))) := opB0 fun _ _ _ _ _ _ _ q => lt_int q
theorem op_le : OpR X (compareOp .LtE) (rI0 fun i j => .bl (decide (i ≤ j))) := opB0 fun _ _ _ _ _ _ _ q => le_int q
theorem op_gt : OpR X (compareOp .Gt) (rI0 fun i j => .bl (decide (j < i))) := opB0 fun _ _ _ _ _ _ _ q => gt_int q
theorem op_ge : OpR X (compareOp .GtE) (rI0 fun i j => .bl (decide (j ≤ i))) := opB0 fun _ _ _ _ _ _ _ q => ge_int q
theorem op_lt_str : OpR X (compareOp .Lt) (fun x y H Q => ∃ i j, x = .str i ∧ y = .str j ∧ Q (.bl (decide (i.cps.toList < j.cps.toList))) H) := by
  (first | refine ⟨?_⟩ | skip); intro pins s σ H x y v u Q I rx ry h
  obtain ⟨i, j, rfl, rfl, q⟩ := h
  obtain ⟨t, rfl⟩ := rx
  obtain ⟨t', rfl⟩ := ry
  exact lt_str (fin_bl I q rfl)
theorem op_in_str : OpR X (compareOp .In) (fun x y H Q => ∃ i j, x = .str i ∧ y = .str j ∧ Q (.bl (!(Builtin.Str.occurrences j i 0 j.length 1).isEmpty)) H) := by
  (first | refine ⟨?_⟩ | skip); intro pins s σ H x y v u Q I rx ry h
  obtain ⟨i, j, rfl, rfl, q⟩ := h
  obtain ⟨t, rfl⟩ := rx
  obtain ⟨t', rfl⟩ := ry
  exact in_str (fin_bl I q rfl)
theorem op_isN : OpR X (compareOp .Is) (fun x y H Q => y = .non ∧ Q (.bl (decide (x = .non))) H) := by
  (first | refine ⟨?_⟩ | skip); intro pins s σ H x y v u Q I rx ry h
  obtain ⟨rfl, q⟩ := h
  cases ry
  refine is_none_gen (fin_bl I q ?_)
  cases x <;> first
    | (cases rx; rfl)
    | (obtain ⟨t, rfl⟩ := rx; rfl)
theorem op_notN : OpR X (compareOp .IsNot) (fun x y H Q => y = .non ∧ Q (.bl (!decide (x = .non))) H) := by
  (first | refine ⟨?_⟩ | skip); intro pins s σ H x y v u Q I rx ry h
  obtain ⟨rfl, q⟩ := h
  cases ry
  refine isnot_none_gen (fin_bl I q ?_)
  cases x <;> first
    | (cases rx; rfl)
    | (obtain ⟨t, rfl⟩ := rx; rfl)
theorem op_notin_str : OpR X (compareOp .NotIn) (fun x y H Q => ∃ i j, x = .str i ∧ y = .str j ∧ Q (.bl (!(!(Builtin.Str.occurrences j i 0 j.length 1).isEmpty))) H) := by
  (first | refine ⟨?_⟩ | skip); intro pins s σ H x y v u Q I rx ry h
  obtain ⟨i, j, rfl, rfl, q⟩ := h
  obtain ⟨t, rfl⟩ := rx
  obtain ⟨t', rfl⟩ := ry
  exact notIn_str (fin_bl I q rfl)
def isObj : HO → Bool
  | .lst _ => true
  | .ins _ _ _ => true
  | _ => false
theorem OpR.or {f : Value → Value → Sem Value} {r r' : R2} (h : OpR X f r) (h' : OpR X f r') : OpR X f (fun x y H Q => r x y H Q ∨ r' x y H Q) := by
  (first | refine ⟨?_⟩ | skip); intro pins s σ H x y v u Q I rx ry q
  rcases q with q | q
  · exact h pins s σ H x y v u Q I rx ry q
  · exact h' pins s σ H x y v u Q I rx ry q
theorem nomark (b : Expr) {op : CmpOp} (h : op ≠ .In := by decide) (h2 : op ≠ .NotIn := by decide) : behindInMarks op b = false := by
  have e1 : (op == CmpOp.In) = false := by cases op <;> first | rfl | exact absurd rfl h
  have e2 : (op == CmpOp.NotIn) = false := by cases op <;> first | rfl | exact absurd rfl h2
  cases b <;> simp [behindInMarks, e1, e2]
theorem pe_cmpR {op : CmpOp} {r : R2} (ho : OpR X (compareOp op) r) (ha : PE X a ta) (hb : PE X b tb) (hm : behindInMarks op b = false) : PE X (.Compare a [op] [b] pos) (tOp r ta tb) := by
  (first | refine ⟨?_⟩ | skip); intro pins s σ H Q I h
  exact wpAny_Compare1 (binT ha hb I h fun v u s2 x y H2 I2 rx ry q => ho pins s2 σ H2 x y v u Q I2 rx ry q) hm
def tTest (t : TE) : TT := fun σ H Q => t σ H fun x H' => ∃ k, x = .bl k ∧ Q k H'
theorem pt_cmpR {op : CmpOp} {r : R2} (ho : OpR X (compareOp op) r) (ha : PE X a ta) (hb : PE X b tb) (hm : behindInMarks op b = false) : PT X (.Compare a [op] [b] pos) (tTest (tOp r ta tb)) := by
  (first | refine ⟨?_⟩ | skip); intro pins s σ H Q I h
  refine wpAny_isTrue_Compare1 (thn (ha pins s σ H _ I h) fun v s1 ⟨x, H1, I1, r1, q1⟩ => thn (hb pins s1 σ H1 _ I1 q1) fun u s2 ⟨y, H2, I2, r2, q2⟩ =>
    thn (ho pins s2 σ H2 x y v u _ I2 r1 r2 q2) fun c s3 ⟨z, H3, I3, r3, k, e, q3⟩ => ?_) hm
  subst e
  cases r3
  exact wpAny_truthy_bool ⟨H3, I3, q3⟩
def tChain (r r' : R2) (ta tb tc : TE) : TE := fun σ H Q => ta σ H fun x H1 => tb σ H1 fun y H2 => r x y H2 fun z H3 => ∃ k, z = .bl k ∧
  (if k = true then tc σ H3 fun w' H4 => r' y w' H4 Q else Q (.bl false) H3)
theorem pe_chain {op op' : CmpOp} {r r' : R2} (ho : OpR X (compareOp op) r) (ho' : OpR X (compareOp op') r') (ha : PE X a ta) (hb : PE X b tb) (hc : PE X c tc)
    (hm : lastMarks [op, op'] [b, c] = false := by with_unfolding_all rfl) : PE X (.Compare a [op, op'] [b, c] pos) (tChain r r' ta tb tc) := by
  (first | refine ⟨?_⟩ | skip); intro pins s σ H Q I h
  refine Compare_chain (thn (ha pins s σ H _ I h) fun v s1 ⟨x, H1, I1, r1, q1⟩ => chain_link (thn (hb pins s1 σ H1 _ I1 q1) fun u s2 ⟨y, H2, I2, r2, q2⟩ =>
    thn (ho pins s2 σ H2 x y v u _ I2 r1 r2 q2) fun d s3 ⟨z, H3, I3, r3, k, e, q3⟩ => ?_)) hm
  subst e
  cases r3
  refine wpAny_truthy_bool ?_
  cases k with
  | false => exact ite_ff ⟨.bl false, H3, I3, rfl, q3⟩
  | true => exact ite_tt (chain_last (thn (hc pins s3 σ H3 _ I3 q3) fun w' s4 ⟨z', H4, I4, r4, q4⟩ => ho' pins s4 σ H4 y z' u w' Q I4 r2 r4 q4))
def TruV (K : PySem.W.Frag) (x : V) (H : Hp) (k : Bool) : Prop :=
  match x with
  | .non => k = false
  | .bl b => k = b
  | .int i => k = (i != 0)
  | .str y => y.length ≤ sizeLine ∧ k = ((y.length : Int) != 0)
  | .byt y => y.size ≤ sizeLine ∧ k = ((y.size : Int) != 0)
  | .ref p => (∃ xs, SqL K H p xs ∧ k = !xs.isEmpty) ∨ (∃ xs, SqT K H p xs ∧ k = !xs.isEmpty) ∨ ∃ kvs, H p = some (.dK kvs) ∧ k = !kvs.isEmpty
  | _ => False
theorem isEmpty_kv {κ : Type} {kvs : List (κ × V)} {vs : List (κ × Value)} (r : KV kvs vs) : (!vs.isEmpty) = !kvs.isEmpty := by
  cases r <;> rfl
theorem isEmpty_of {xs : List V} {its : List Value} (r : Vals xs its) : (!its.toArray.isEmpty) = !xs.isEmpty := by
  cases r <;> simp
theorem line63 : (sizeLine : Nat) < 2 ^ 63 := by rw [sizeLine_eq]; decide
theorem tru_ok : TruR X (fun x H Q => ∃ k, TruV X.K x H k ∧ Q k H) := by
  (first | refine ⟨?_⟩ | skip); intro pins s σ H x v Q I rx h
  obtain ⟨k, e, q⟩ := h
  have hl := line63
  have hs : sizeLine = 16777216 := sizeLine_eq
  cases x with
  | non =>
    cases rx
    have e' : k = false := e
    subst e'
    exact truthy_none ⟨H, I, q⟩
  | bl b =>
    cases rx
    have e' : k = b := e
    subst e'
    exact wpAny_truthy_bool ⟨H, I, q⟩
  | int i =>
    obtain ⟨t, rfl⟩ := rx
    have e' : k = (i != 0) := e
    subst e'
    exact PySem.P.truthy_int ⟨H, I, q⟩
  | str y =>
    obtain ⟨t, rfl⟩ := rx
    obtain ⟨hy, e'⟩ : y.length ≤ sizeLine ∧ k = ((y.length : Int) != 0) := e
    subst e'
    exact PySem.P.truthy_str (by omega) ⟨H, I.tok _, q⟩
  | byt y =>
    obtain ⟨t, rfl⟩ := rx
    obtain ⟨hy, e'⟩ : y.size ≤ sizeLine ∧ k = ((y.size : Int) != 0) := e
    subst e'
    exact PySem.W.truthy_bytes (by omega) ⟨H, I.tok _, q⟩
  | ref p =>
    cases rx
    have e' : (∃ xs, SqL X.K H p xs ∧ k = !xs.isEmpty) ∨ (∃ xs, SqT X.K H p xs ∧ k = !xs.isEmpty) ∨ ∃ kvs, H p = some (.dK kvs) ∧ k = !kvs.isEmpty := e
    rcases e' with ⟨xs, hx, e'⟩ | ⟨xs, hx, e'⟩ | ⟨kvs, hx, e'⟩
    · subst e'
      obtain ⟨its, r, pl, hz⟩ := I.list hx
      have hlen := r.length
      exact wpAny_truthy_list pl.isList (by simp only [List.size_toArray]; omega) ⟨H, I.tok _, by rw [isEmpty_of r]; exact q⟩
    · subst e'
      obtain ⟨its, r, pl, hz⟩ := I.tuple hx
      have hlen := r.length
      exact truthy_tuple pl (by simp only [List.size_toArray]; omega) ⟨H, I.tok _, by rw [isEmpty_of r]; exact q⟩
    · subst e'
      obtain ⟨hz, hS, vs, r, m⟩ : kvs.length ≤ sizeLine ∧ (p == sysModules) = false ∧ ∃ vs, KV kvs vs ∧ s.heap.DictOf (mixKind X.prog X.w) p vs := I.hok p _ hx
      have hlen : kvs.length = vs.length := Paired.length r
      exact wpAny_truthy_dict hS m (by omega) ⟨H, I.tok _, by rw [isEmpty_kv r]; exact q⟩
  | _ => exact (show False from e).elim
theorem pt_truth (ha : PE X a ta) (he : ∀ whole, isTrue a X.env whole = (do let v ← whole; standAt a.pos; holding [v] (truthy v))) :
    PT X a (fun σ H Q => ta σ H fun x H' => ∃ k, TruV X.K x H' k ∧ Q k H') := by
  (first | refine ⟨?_⟩ | skip); intro pins s σ H Q I h
  exact isTrue_plain (thn (ha pins s σ H _ I h) fun v s1 ⟨x, H1, I1, r1, q1⟩ => tru_ok pins s1 σ H1 x v Q I1 r1 q1) (he _)
theorem op_add_str : OpR X (binaryOp .Add) (fun x y H Q => ∃ i j, x = .str i ∧ y = .str j ∧ i.length + j.length ≤ sizeLine ∧ Q (.str (i ++ j)) H) := by
  (first | refine ⟨?_⟩ | skip); intro pins s σ H x y v u Q I rx ry h
  obtain ⟨i, j, rfl, rfl, hz, q⟩ := h
  obtain ⟨t, rfl⟩ := rx
  obtain ⟨t', rfl⟩ := ry
  exact add_str (fun t' tk => ⟨.str (i ++ j), H, I.tok _, ⟨_, rfl⟩, q⟩) hz
def PlainIxT (b : Expr) : Prop := ∀ o i, subscripted b false o i = operate [o, i] (getItem o i)
theorem vals1 {x : V} {us : List Value} (r : Vals [x] us) : ∃ u, us = [u] ∧ RelV x u := by
  cases r with
  | cons r1 r2 => cases r2; exact ⟨_, rfl, r1⟩
theorem vals2 {x y : V} {us : List Value} (r : Vals [x, y] us) : ∃ u w', us = [u, w'] ∧ RelV x u ∧ RelV y w' := by
  cases r with
  | cons r1 r2 =>
    cases r2 with
    | cons r3 r4 => cases r4; exact ⟨_, _, rfl, r1, r3⟩
theorem call_min2 (hc : X.calm = true) : CallR X (.builtin "min") (fun xs H Q => ∃ i j, xs = [.int i, .int j] ∧ Q (.int (if j < i then j else i)) H) := by
  (first | refine ⟨?_⟩ | skip); intro pins s σ H xs us Q I r h
  obtain ⟨i, j, rfl, q⟩ := h
  obtain ⟨u, w', rfl, ⟨t, rfl⟩, ⟨t', rfl⟩⟩ := vals2 r
  refine min_two_ints (I.ok.hd hc) fun h' tk k => ⟨_, H, I.kept k, ?_, q⟩
  by_cases hj : j < i
  · rw [if_pos hj, if_pos hj]; exact ⟨_, rfl⟩
  · rw [if_neg hj, if_neg hj]; exact ⟨_, rfl⟩
def LenV (K : PySem.W.Frag) (x : V) (H : Hp) (n : Nat) : Prop :=
  match x with
  | .str y => y.length ≤ sizeLine ∧ n = y.length
  | .byt y => y.size ≤ sizeLine ∧ n = y.size
  | .ref p => (∃ xs, SqL K H p xs ∧ n = xs.length) ∨ ∃ xs, SqT K H p xs ∧ n = xs.length
  | _ => False
end
end L2
namespace L2
open PySem PySem.Spec PyProof.Rows
structure ObjM (h : Heap) (x dx C : Addr) (mA : Str → Option Value) : Prop where
  obj : h.get? x = some (PySem.W.instObj C dx)
  ns : h.Ns1 dx mA
  ne : dx ≠ x
theorem lookIn_ns {h : Heap} {dx : Addr} {mA : Str → Option Value} (n : h.Ns1 dx mA) : ∃ od, h.get? dx = some od ∧ ∀ name, PySem.W.lookIn name od = some (mA name) := by
  obtain ⟨o, es, ep, ho, hd, hk, _, hm⟩ := n
  refine ⟨o, ho, fun name => ?_⟩
  have e := hm name
  unfold nsFind findBy at e
  rw [← Array.find?_toList] at e
  unfold PySem.W.lookIn
  rw [hd]
  dsimp only
  split
  · rename_i y q
    rw [q] at e
    exact congrArg some e
  · rename_i q
    rw [q] at e
    have a : es.toList.any (·.refKey) = false := by
      rw [List.any_eq_false]
      intro y hy
      obtain ⟨z, t, hkey⟩ := hk y (Array.mem_toList_iff.mp hy)
      simp [DictEntry.refKey, hkey]
    have a' : ¬ es.toList.any (·.refKey) = true := by rw [a]; exact Bool.false_ne_true
    rw [if_neg a']
    exact congrArg some e
theorem ObjM.look {h : Heap} {x dx C : Addr} {mA : Str → Option Value} (I : ObjM h x dx C mA) : ∃ od, PySem.W.InstAt h x (PySem.W.instObj C dx) C (some od) ∧ ∀ name, PySem.W.lookIn name od = some (mA name) :=
  let ⟨od, ho, hl⟩ := lookIn_ns I.ns
  ⟨od, ⟨I.obj, rfl, rfl, ho⟩, hl⟩
section
variable {prog : Program} {w : World} {A : Around} {E : Value → Shared → Prop} {s : Shared} {K : PySem.W.Frag} {x dx C f : Addr} {mA : Str → Option Value} {name : Str} {v : Value}
end
def putF (f : Str) (v : V) : List (Str × V) → List (Str × V)
  | [] => [(f, v)]
  | (g, x) :: r => if g = f then (g, v) :: r else (g, x) :: putF f v r
section
variable {P : Program} {w : World} {H H' : Hp} {h h' : Heap} {a C dx : Addr} {fs fs' : List (Str × V)}
theorem ins_get (hok : HOk P w H h) (e : H a = some (.ins C dx fs)) : ∃ mA, ObjM h a dx C mA ∧ (∀ f, RelO (fs.lookup f) (mA f)) ∧ PySem.Within mA (fs.map (·.1)) ∧ fs.length ≤ 1000 ∧ H dx = some (.own a) := by
  obtain ⟨d, z, ne, ob, mA, n, r, q⟩ := (show ObjOk P w H h a (.ins C dx fs) from hok a _ e)
  exact ⟨mA, ⟨ob, n, ne⟩, r, q, z, d⟩
end
structure Cls (K : PySem.W.Frag) (C : Addr) : Prop where
  pg : PySem.W.plainGet K C Str.empty = true
  hd : PySem.W.hasDictIn K C = true
  po : PySem.W.plainOver K C = true
  sa : PySem.W.findIn K (.ref C) "__setattr__" = some (some (.builtin "object.__setattr__"))
theorem Cls.get {K : PySem.W.Frag} {C : Addr} (c : Cls K C) (f : Str) : PySem.W.plainGet K C f = true := c.pg
def NoAttr (K : PySem.W.Frag) (C : Addr) (f : Str) : Prop := PySem.W.findIn K (.ref C) f = some none
structure Con (K : PySem.W.Frag) (C : Addr) (f : Str) (v : V) (u : Value) : Prop where
  at_ : PySem.W.findIn K (.ref C) f = some (some u)
  rel : RelV v u
  get : PySem.W.specialIn K u "__get__" = some none
  cp : PySem.W.copiedNames.contains f = false
structure Meth (K : PySem.W.Frag) (C : Addr) (m : Str) (f : Addr) : Prop where
  at_ : PySem.W.findIn K (.ref C) m = some (some (.ref f))
  fn : PySem.W.isFn K (.ref f) = true
  kp : PySem.W.keepIn K (.ref f) = true
section
variable {X : Cx} {pins : List (Addr × Obj)} {σ : St} {H : Hp} {s : Shared} {a C dx : Addr} {fs : List (Str × V)} {f : Str} {v : V} {A : Around} {E : Value → Shared → Prop}
theorem Inv.made (I : Inv X pins σ H s) : Inv X pins σ (upd (upd H s.heap.objs.size (.own (s.heap.objs.size + 1))) (s.heap.objs.size + 1) (.ins C s.heap.objs.size []))
    { s with heap := (s.heap.push PySem.W.emptyDict).push (PySem.W.instObj C s.heap.objs.size) } := by
  have e1 : (s.heap.push PySem.W.emptyDict).get? s.heap.objs.size = some PySem.W.emptyDict := Heap.get?_push_size s.heap rfl
  have e2 : ((s.heap.push PySem.W.emptyDict).push (PySem.W.instObj C s.heap.objs.size)).get? (s.heap.objs.size + 1) = some (PySem.W.instObj C s.heap.objs.size) := by
    have := Heap.get?_push_size (s.heap.push PySem.W.emptyDict) (o := PySem.W.instObj C s.heap.objs.size) rfl
    rwa [Heap.size_push] at this
  have e3 : (s.heap.push PySem.W.emptyDict).Ns s.heap.objs.size (fun _ => none) := ⟨PySem.W.emptyDict, #[], _, e1, rfl, (fun e he => absurd he (by simp)), fun _ => rfl⟩
  have I1 := I.laid (a := s.heap.objs.size) (o := .own (s.heap.objs.size + 1)) (h' := s.heap.push PySem.W.emptyDict) (t' := s.toks) (fun b u q => Heap.get?_push_of_some _ q) (Nat.le_refl _) ⟨_, e1⟩
  refine I1.laid (a := s.heap.objs.size + 1) (o := .ins C s.heap.objs.size []) (t' := s.toks) (fun b u q => Heap.get?_push_of_some _ q) (Nat.le_of_eq (Heap.size_push _ _)) ?_
  have ne : s.heap.objs.size ≠ s.heap.objs.size + 1 := Nat.ne_of_lt (Nat.lt_succ_self _)
  refine ⟨by rw [upd_ne ne, upd_same], Nat.zero_le _, ne, e2, fun _ => none, (Heap.Ns1.of_empty e3).at fun o q => Heap.get?_push_of_some _ q, fun _ => True.intro, fun y hy => absurd rfl hy⟩
end
def tFld (K : PySem.W.Frag) (ta : TE) (f : Str) : TE := fun σ H Q => ta σ H fun x H1 => ∃ a C dx fs v, x = .ref a ∧ H1 a = some (.ins C dx fs) ∧ Cls K C ∧ NoAttr K C f ∧ fs.lookup f = some v ∧ Q v H1
def tCon (K : PySem.W.Frag) (ta : TE) (f : Str) : TE := fun σ H Q => ta σ H fun x H1 => ∃ a C dx fs v u, x = .ref a ∧ H1 a = some (.ins C dx fs) ∧ Cls K C ∧ Con K C f v u ∧ fs.lookup f = none ∧ Q v H1
def sFld (K : PySem.W.Frag) (ta tv : TE) (f : Str) : TS := fun D σ H => tv σ H fun y H1 => ta σ H1 fun x H2 => ∃ a C dx fs, x = .ref a ∧ H2 a = some (.ins C dx fs) ∧ Cls K C ∧ NoAttr K C f ∧ fs.length < 1000 ∧
  D.nx σ (upd H2 a (.ins C dx (putF f y fs)))
def InOp (X : Cx) (op : Operator) (rd : V → V → Hp → VK → Prop) : Prop :=
  ∀ (pins : List (Addr × Obj)) (s : Shared) (σ : St) (H : Hp) (x y : V) (u v : Value) (Q : VK), Inv X pins σ H s → RelV x u → RelV y v → rd x y H Q → wpAny (model X.prog X.w) X.A (inplaceOp op u v) (EP X pins σ Q) X.xe s
def sFldAug (K : PySem.W.Frag) (ta tv : TE) (rd : V → V → Hp → VK → Prop) (f : Str) : TS := fun D σ H => ta σ H fun x H1 => ∃ a C dx fs v, x = .ref a ∧ H1 a = some (.ins C dx fs) ∧ Cls K C ∧ NoAttr K C f ∧ fs.lookup f = some v ∧
  tv σ H1 fun y H2 => rd v y H2 fun z H3 => ∃ dx' fs', H3 a = some (.ins C dx' fs') ∧ fs'.length < 1000 ∧ D.nx σ (upd H3 a (.ins C dx' (putF f z fs')))
section
variable {X : Cx} {o e value : Expr} {f : Str} {pos pos' tpos : Pos} {ta tv : TE}
def rAdd : V → V → Hp → VK → Prop := fun x y H Q => ∃ i j, x = .int i ∧ y = .int j ∧ Q (.int (i + j)) H
def rSub : V → V → Hp → VK → Prop := fun x y H Q => ∃ i j, x = .int i ∧ y = .int j ∧ Q (.int (i - j)) H
end
section
variable {X : Cx} {pins : List (Addr × Obj)} {σ : St} {H : Hp} {s : Shared} {A : Around} {E : Value → Shared → Prop} {Q : Value → Shared → Prop} {c : Value} {b : Bool}
inductive TyOf (K : PySem.W.Frag) (H : Hp) : V → Value → Prop where
  | non : TyOf K H .non (.type "NoneType")
  | bl (x : Bool) : TyOf K H (.bl x) (.type "bool")
  | int (i : Int) : TyOf K H (.int i) (.type "int")
  | str (x : Str) : TyOf K H (.str x) (.type "str")
  | flt (x : UInt64) : TyOf K H (.flt x) (.type "float")
  | lst {a : Addr} {xs : List V} (e : H a = some (.lst xs)) : TyOf K H (.ref a) (.type "list")
  | frz {a : Addr} {o : Obj} {xs : List V} (e : H a = some (.frz o (.lst xs))) : TyOf K H (.ref a) (.type "list")
  | tup {a : Addr} {xs : List V} (e : H a = some (.tup xs)) : TyOf K H (.ref a) (.type "tuple")
  | dK {a : Addr} {kvs : List (Key × V)} (e : H a = some (.dK kvs)) : TyOf K H (.ref a) (.type "dict")
  | dT {a : Addr} {kvs : List (List Key × V)} (e : H a = some (.dT kvs)) : TyOf K H (.ref a) (.type "dict")
  | ins {a C dx : Addr} {fs : List (Str × V)} (e : H a = some (.ins C dx fs)) (cl : Cls K C) (ha : PySem.W.findIn K (.ref C) "__class__" = some (some (.builtin "object.__class__")))
      (hn : PySem.W.specialIn K (.builtin "object.__class__") "__get__" = some (some (.builtin "getset_descriptor.__get__"))) (htk : PySem.W.takesIn K (.builtin "object.__class__") = some true)
      (hm : PySem.W.mroIn K C (.type "object") = some true) : TyOf K H (.ref a) (.ref C)
theorem isinst_ok {x : V} {u t : Value} (I : Inv X pins σ H s) (rx : RelV x u) (ty : TyOf X.K H x t) (e : PySem.W.kitOne X.K t c = some b) (h : ∀ tk, Q (.bool b) { s with toks := tk }) :
    wpAny (model X.prog X.w) A (call (.builtin "isinstance") [u, c]) Q E s := by
  cases ty with
  | non => cases (show u = Value.none from rx); exact PySem.W.kia_one PySem.W.kitx_none I.kIn True.intro e (fun z => nomatch z) h
  | bl y => cases (show u = Value.bool y from rx); exact PySem.W.kia_one PySem.W.kitx_bool I.kIn True.intro e (fun z => nomatch z) h
  | int i => obtain ⟨t, q⟩ := (show ∃ t, u = Value.int i t from rx); cases q; exact PySem.W.kia_one PySem.W.kitx_int I.kIn True.intro e (fun z => nomatch z) h
  | str y => obtain ⟨t, q⟩ := (show ∃ t, u = Value.str y t from rx); cases q; exact PySem.W.kia_one PySem.W.kitx_str I.kIn True.intro e (fun z => nomatch z) h
  | flt y => obtain ⟨t, q⟩ := (show ∃ t, u = Value.float y t from rx); cases q; exact PySem.W.kia_one PySem.W.kitx_float I.kIn True.intro e (fun z => nomatch z) h
  | @lst a xs ea =>
    cases (show u = Value.ref a from rx)
    obtain ⟨_, _, n, _, h1⟩ := (show ObjOk X.prog X.w H s.heap a (.lst xs) from I.hok a _ ea)
    exact PySem.W.kia_one PySem.W.kitx_list I.kIn ⟨_, h1, rfl⟩ e (fun z => nomatch z) h
  | @frz a ob xs ea =>
    cases (show u = Value.ref a from rx)
    obtain ⟨_, _, _, n, _, h1⟩ := (show ObjOk X.prog X.w H s.heap a (.frz ob (.lst xs)) from I.hok a _ ea)
    exact PySem.W.kia_one PySem.W.kitx_list I.kIn ⟨_, h1, rfl⟩ e (fun z => nomatch z) h
  | @tup a xs ea =>
    cases (show u = Value.ref a from rx)
    obtain ⟨_, _, _, p⟩ := (show ObjOk X.prog X.w H s.heap a (.tup xs) from I.hok a _ ea)
    obtain ⟨o, h1, h2, _⟩ := p
    exact PySem.W.kia_one PySem.W.kitx_tuple I.kIn ⟨o, h1, h2⟩ e (fun z => nomatch z) h
  | @dK a kvs ea =>
    cases (show u = Value.ref a from rx)
    obtain ⟨_, _, vs, _, p⟩ := (show ObjOk X.prog X.w H s.heap a (.dK kvs) from I.hok a _ ea)
    obtain ⟨o, es, ep, h1, h2, _⟩ := p
    exact PySem.W.kia_one PySem.W.kitx_dict I.kIn ⟨o, h1, h2.1⟩ e (fun z => nomatch z) h
  | @dT a kvs ea =>
    cases (show u = Value.ref a from rx)
    obtain ⟨_, _, xs, _, o, es, ep, h1, h2, _⟩ := (show ObjOk X.prog X.w H s.heap a (.dT kvs) from I.hok a _ ea)
    exact PySem.W.kia_one PySem.W.kitx_dict I.kIn ⟨o, h1, h2.1⟩ e (fun z => nomatch z) h
  | @ins a C dx fs ea cl ha hn htk hm =>
    cases (show u = Value.ref a from rx)
    obtain ⟨mA, O, _⟩ := ins_get I.hok ea
    obtain ⟨od, J, _⟩ := O.look
    exact PySem.W.kia_one (PySem.W.kitx_own (cl.get _) cl.hd ha hn htk hm) I.kIn J e (fun z => nomatch z) h
end
end L2
namespace L2
open PySem PySem.Spec PyProof.Rows
structure Room (k : Nat) (A : Around) : Prop where
  hd : A.handled = none
  dp : A.depth + 3 * k + 5 < recursionLimit
  un : A.units + 16 * k + 200 < cLine
  gd : A.guards = some []
theorem Room.mono {j k : Nat} {A : Around} (r : Room k A) (h : j ≤ k) : Room j A := ⟨r.hd, by have := r.dp; omega, by have := r.un; omega, r.gd⟩
theorem Room.deeper {k : Nat} {A : Around} (r : Room (k + 1) A) (env : Env) : Room k (A.deeper env) :=
  ⟨r.hd, by have := r.dp; show A.depth + 1 + 3 * k + 5 < _; omega, by have := r.un; show A.units + 3 + 16 * k + 200 < _; omega, r.gd⟩
theorem Room.in1 {k : Nat} {A : Around} (r : Room (k + 1) A) : Room k A.in1 :=
  ⟨r.hd, by have := r.dp; show A.depth + 3 * k + 5 < _; omega, by have := r.un; show A.units + 1 + 16 * k + 200 < _; omega, r.gd⟩
theorem Room.depth {k : Nat} {A : Around} (r : Room k A) : A.depth < recursionLimit := by have := r.dp; omega
theorem Room.units {k : Nat} {A : Around} (r : Room k A) : A.units + 64 < cLine := by have := r.un; omega
def tNil : TA := fun _ H Q => Q [] H
def tCons (ta : TE) (tr : TA) : TA := fun σ H Q => ta σ H fun x H1 => tr σ H1 fun xs H2 => Q (x :: xs) H2
section
variable {X : Cx} {e : Expr} {es : List Expr} {te : TE} {t : TA} {pos : Pos}
theorem pa_nil : PA X [] tNil := .mk <| fun _ _ _ _ H Q I h => Calls.spliced_nil ⟨[], H, I, .nil, h⟩
theorem pa_cons (ha : PE X e te) (hr : PA X es t) (hs : starEach (e :: es) X.env = (false, eval e X.env) :: starEach es X.env := by rfl) : PA X (e :: es) (tCons te t) := by
  (first | refine ⟨?_⟩ | skip); intro pos pins s σ H Q I h
  rw [hs]
  show wpAny _ _ (spliced ((false, eval e X.env) :: backTo pos (starEach es X.env))) _ _ s
  refine Calls.spliced_cons (thn (ha pins s σ H _ I h) fun u s1 ⟨x, H1, I1, r1, q1⟩ => ?_)
  exact thn (hr pos pins s1 σ H1 _ I1 q1) fun us s2 ⟨xs, H2, I2, r2, q2⟩ => ⟨x :: xs, H2, I2, .cons r1 r2, q2⟩
def tTup (t : TA) : TE := fun σ H Q => t σ H fun xs H1 => xs.length ≤ sizeLine ∧ ∀ p, H1 p = none → Q (.ref p) (upd H1 p (.tup xs))
def tLst (t : TA) : TE := fun σ H Q => t σ H fun xs H1 => xs.length ≤ sizeLine ∧ ∀ p, H1 p = none → Q (.ref p) (upd H1 p (.lst xs))
end
abbrev Sp := List V → Hp → VK → XK → Prop
abbrev CXT := List Env → Hp → Shared → XK → Value → Shared → Prop
structure Env0 (P : Program) (w : World) (K : PySem.W.Frag) (mg : Str → Option Value) (base : Heap) (A : Around) (outer : List Env) (s : Shared) (H : Hp) : Prop where
  frames : A.frames = some outer
  mod : Mod K mg base
  bs : ∀ b o, base.get? b = some o → s.heap.get? b = some o ∧ H b = none
  bsz : base.objs.size ≤ s.heap.objs.size
  funs : s.heap.FunFrames base outer
  frf : ∀ b ∈ frs outer, H b = none
  hok : HOk P w H s.heap
  bare : AllBare s.gens
def CE (outer : List Env) (P : Program) (w : World) (H : Hp) (s : Shared) (Q : VK) (u : Value) (s' : Shared) : Prop :=
  ∃ v H', s'.os = s.os ∧ AllBare s'.gens ∧ Un (frs outer) [] H H' s.heap s'.heap ∧ HOk P w H' s'.heap ∧ RelV v u ∧ Q v H'
def CR (CX : CXT) (outer : List Env) (P : Program) (w : World) (H : Hp) (s : Shared) (Q : VK) (E : XK) (r : Result) (s' : Shared) : Prop :=
  match r with
  | .ok (.ret u) => CE outer P w H s Q u s'
  | .ok _ => False
  | .error e => CX outer H s E e s'
structure FnOk (P : Program) (w : World) (K : PySem.W.Frag) (mg : Str → Option Value) (base : Heap) (CX : CXT) (k : Nat) (f : Addr) (fd : FuncData) (ps : List Str) (sp : Sp) : Prop where
  len : ∀ vs H Q E, sp vs H Q E → vs.length = ps.length
  run : ∀ (A : Around) (outer : List Env) (s : Shared) (H : Hp) (args : Args) (us : List Value) (vs : List V) (Q : VK) (E : XK), Room k A → Env0 P w K mg base A outer s H → BindsTo s fd args (ps.zip us) → Vals vs us → sp vs H Q E →
    codeAny (model P w) A (.call (.ref f) args) (CR CX outer P w H s Q E) s
theorem FnOk.mono {P : Program} {w : World} {K : PySem.W.Frag} {mg : Str → Option Value} {base : Heap} {CX : CXT} {j k : Nat} {f : Addr} {fd : FuncData} {ps : List Str} {sp : Sp} (F : FnOk P w K mg base CX j f fd ps sp) (h : j ≤ k) :
    FnOk P w K mg base CX k f fd ps sp := ⟨F.len, fun A outer s H args us vs Q E hr => F.run A outer s H args us vs Q E (hr.mono h)⟩
theorem FnOk.imp {P : Program} {w : World} {K : PySem.W.Frag} {mg : Str → Option Value} {base : Heap} {CX : CXT} {k : Nat} {f : Addr} {fd : FuncData} {ps : List Str} {sp sp' : Sp} (F : FnOk P w K mg base CX k f fd ps sp)
    (h : ∀ vs H Q E, sp' vs H Q E → sp vs H Q E) : FnOk P w K mg base CX k f fd ps sp' :=
  ⟨fun vs H Q E q => F.len vs H Q E (h _ _ _ _ q), fun A outer s H args us vs Q E hr he hb hv hs => F.run A outer s H args us vs Q E hr he hb hv (h _ _ _ _ hs)⟩
theorem Env0.in1 {P : Program} {w : World} {K : PySem.W.Frag} {mg : Str → Option Value} {base : Heap} {A : Around} {outer : List Env} {s : Shared} {H : Hp} (e : Env0 P w K mg base A outer s H) :
    Env0 P w K mg base A.in1 outer s H := ⟨e.frames, e.mod, e.bs, e.bsz, e.funs, e.frf, e.hok, e.bare⟩
section
variable {X : Cx} {pins : List (Addr × Obj)} {σ : St} {H : Hp} {s s' : Shared}
theorem Inv.env0 (I : Inv X pins σ H s) : Env0 X.prog X.w X.K X.mg X.base X.A X.stack s H :=
  ⟨I.ok.frames, I.ok.mod, I.bs, Nat.le_trans I.ok.bsz I.sz, I.stack, I.stkFree, I.hok, I.bare⟩
theorem Inv.after {Q : VK} {u : Value} (I : Inv X pins σ H s) (h : CE X.stack X.prog X.w H s Q u s') : EP X pins σ Q u s' := by
  obtain ⟨v, H', os, bare, un, hok, r, q⟩ := h
  obtain ⟨hh, g, d, t, os'⟩ := s'
  obtain rfl : os' = s.os := os
  exact ⟨v, H', I.call (h' := hh) (g' := g) (d' := d) (t' := t) (ch := []) un hok bare (fun b z => absurd z (by simp)), r, q⟩
end
def tCall (sp : Sp) (dvs : List V) (E : XK) (t : TA) : TE := fun σ H Q => t σ H fun vs H1 => sp (vs ++ dvs) H1 Q E
def tMeth (C : Addr) (m : Str) (sp : Sp) (dvs : List V) (E : XK) (ta : TE) (t : TA) : TE := fun σ H Q => ta σ H fun x H1 => ∃ a dx fs, x = .ref a ∧ H1 a = some (.ins C dx fs) ∧ fs.lookup m = none ∧
  t σ H1 fun vs H2 => sp (x :: (vs ++ dvs)) H2 Q E
def tMake (C : Addr) (sp : Sp) (dvs : List V) (E : XK) (t : TA) : TE := fun σ H Q => t σ H fun vs H1 => ∀ x dx, H1 x = none → H1 dx = none → dx ≠ x →
  sp (.ref x :: (vs ++ dvs)) (upd (upd H1 dx (.own x)) x (.ins C dx [])) (fun v H2 => v = .non ∧ Q (.ref x) H2) E
def Binds (K : PySem.W.Frag) (fd : FuncData) (ps : List Str) (ds : List Value) : Prop :=
  ∀ (s : Shared) (us : List Value), K.In s.heap → (us ++ ds).length = ps.length → BindsTo s fd ⟨us, []⟩ (ps.zip (us ++ ds))
theorem Binds.all {K : PySem.W.Frag} {fd : FuncData} {ps : List Str} (h : ∀ us : List Value, us.length = ps.length → bindArgs fd ⟨us, []⟩ = pure (ps.zip us)) : Binds K fd ps [] := fun s us _ hl => by
  rw [List.append_nil] at hl ⊢
  exact .of_eq (h us hl)
def Passes (CX : CXT) (X : Cx) (E : XK) : Prop := ∀ (pins : List (Addr × Obj)) (σ : St) (H : Hp) (s : Shared) (e : Value) (s' : Shared), Inv X pins σ H s → CX X.stack H s E e s' → X.xe e s'
section
variable {X : Cx} {CX : CXT} {k : Nat} {f C : Addr} {fd : FuncData} {ps : List Str} {sp : Sp} {dvs : List V} {ds : List Value} {E : XK} {x m : Str} {p pos apos : Pos} {e o : Expr} {es : List Expr} {ta : TE} {t : TA}
theorem run_fn {pins : List (Addr × Obj)} {σ : St} {H : Hp} {s : Shared} {Q : VK} {us : List Value} {vs : List V} (F : FnOk X.prog X.w X.K X.mg X.base CX k f fd ps sp) (hr : Room k X.A) (hb : Binds X.K fd ps ds) (hd : Vals dvs ds) (hx : Passes CX X E)
    (I : Inv X pins σ H s) (r : Vals vs us) (h : sp (vs ++ dvs) H Q E) : wpAny (model X.prog X.w) X.A (call (.ref f) us) (EP X pins σ Q) X.xe s := by
  have r2 : Vals (vs ++ dvs) (us ++ ds) := r.append hd
  have hl : (us ++ ds).length = ps.length := by rw [← r2.length]; exact F.len _ _ _ _ h
  refine wpAny_call (codeAny_mono (F.run X.A X.stack s H ⟨us, []⟩ (us ++ ds) (vs ++ dvs) Q E hr I.env0 (hb s us I.kIn hl) r2 h) fun r s' hq => ?_)
  cases r with
  | error e => exact hx pins σ H s e s' I hq
  | ok fl =>
    cases fl with
    | ret u => exact I.after hq
    | next => exact False.elim hq
    | brk => exact False.elim hq
    | cont => exact False.elim hq
theorem pe_call (F : FnOk X.prog X.w X.K X.mg X.base CX k f fd ps sp) (hr : Room k X.A) (hg : Gl X x) (hm : X.mg x = some (.ref f)) (hk : PySem.W.keepIn X.K (.ref f) = true) (hb : Binds X.K fd ps ds) (hd : Vals dvs ds) (hx : Passes CX X E)
    (ha : PA X (e :: es) t) (hdb : (x == ("__debug__" : Str)) = false := by decide) (he : starEach (e :: es) X.env = (false, eval e X.env) :: starEach es X.env := by rfl) (hpl : (backTo pos (starEach es X.env)).any (·.1) = false := by rfl) :
    PE X (.Call (.Name x p) (e :: es) [] pos) (tCall sp dvs E t) := by
  (first | refine ⟨?_⟩ | skip); intro pins s σ H Q I h
  refine wpAny_Call_Name_kw (ld_glob I hg hm ?_ hdb)
  refine PySem.W.callWith_K (h₀ := X.base) I.ok.mod.kin hk (thn (ha pos pins s σ H _ I h) fun us s1 ⟨vs, H1, I1, r, q⟩ => ⟨I1.kIn, ?_⟩) he hpl
  exact run_fn F hr hb hd hx I1 r q
structure Mk (K : PySem.W.Frag) (C f : Addr) : Prop where
  makes : PySem.W.makesIn K C = true
  init : PySem.W.findIn K (.ref C) "__init__" = some (some (.ref f))
  fn : PySem.W.isFn K (.ref f) = true
  kp : PySem.W.keepIn K (.ref C) = true
end
def PK (X : Cx) (kws : List Keyword) (t : TA) : Prop :=
  ∀ (pos : Pos) (pins : List (Addr × Obj)) (s : Shared) (σ : St) (H : Hp) (Q : List V → Hp → Prop), Inv X pins σ H s → t σ H Q → wpAny (model X.prog X.w) X.A (evalAll ((backToKw pos (keywordEach kws X.env)).map (·.2))) (AP X pins σ Q) X.xe s
section
variable {X : Cx} {CX : CXT} {k : Nat} {f C : Addr} {fd : FuncData} {ps ks : List Str} {sp : Sp} {E : XK} {x m : Str} {p pos apos kpos : Pos} {e o : Expr} {es : List Expr} {kws : List Keyword} {te ta : TE} {t tk : TA} {nm : Option Str}
structure KBinds (K : PySem.W.Frag) (fd : FuncData) (ps ks : List Str) (g : List Value → List Value → List Value) (gV : List V → List V → List V) : Prop where
  to : ∀ (s : Shared) (us ws : List Value), K.In s.heap → (g us ws).length = ps.length → BindsTo s fd ⟨us, ks.zip ws⟩ (ps.zip (g us ws))
  rel : ∀ {vs : List V} {us : List Value} {zs : List V} {ws : List Value}, Vals vs us → Vals zs ws → Vals (gV vs zs) (g us ws)
def tCallK (sp : Sp) (gV : List V → List V → List V) (E : XK) (t tk : TA) : TE := fun σ H Q => t σ H fun vs H1 => tk σ H1 fun zs H2 => sp (gV vs zs) H2 Q E
variable {g : List Value → List Value → List Value} {gV : List V → List V → List V}
end
structure FnScope (N P : List Str) (sc : Scope) : Prop where
  kind : sc.kind = .function
  co : sc.isCoroutine = false
  gen : sc.isGenerator = false
  nd : N.Nodup
  pre : N.take P.length = P
  par : ∀ x ∈ P, sc.names.lookup x = some .local ∨ sc.names.lookup x = some .cell
  nofree : ∀ y ∈ sc.names, y.2 ≠ .free
theorem bindL_out {kindOf : Str → Option NameKind} {x : Str} : ∀ {binds : List (Str × Value)} {m : Str → Option Value}, (∀ v, (x, v) ∉ binds) → bindL kindOf binds m x = m x
  | [], _, _ => rfl
  | (n, v) :: r, m, h => by
    unfold bindL
    rw [bindL_out fun w hw => h w (List.mem_cons_of_mem _ hw)]
    split
    · have : x ≠ n := by rintro rfl; exact h v List.mem_cons_self
      simp [this]
    · rfl
theorem bindC_out {kindOf : Str → Option NameKind} {x : Str} : ∀ {binds : List (Str × Value)} {m : Str → Option Value}, (∀ v, (x, v) ∉ binds) → bindC kindOf binds m x = m x
  | [], _, _ => rfl
  | (n, v) :: r, m, h => by
    unfold bindC
    rw [bindC_out fun w hw => h w (List.mem_cons_of_mem _ hw)]
    split
    · rfl
    · have : x ≠ n := by rintro rfl; exact h v List.mem_cons_self
      simp [this]
theorem bindL_get {kindOf : Str → Option NameKind} {x : Str} {v : Value} : ∀ {P : List Str} {vs : List Value} {i : Nat} {m : Str → Option Value}, P.Nodup → P[i]? = some x → vs[i]? = some v → kindOf x = some .local →
    bindL kindOf (P.zip vs) m x = some v
  | [], _, _, _, _, h, _, _ => by simp at h
  | _ :: _, [], _, _, _, _, h, _ => by simp at h
  | p :: P, w :: vs, 0, m, nd, h1, h2, hk => by
    simp at h1 h2; subst h1; subst h2
    show bindL kindOf ((p, w) :: P.zip vs) m p = _
    unfold bindL
    rw [bindL_out fun v hv => (List.nodup_cons.mp nd).1 (List.of_mem_zip hv).1, if_pos hk]
    simp
  | p :: P, w :: vs, i + 1, m, nd, h1, h2, hk => by
    show bindL kindOf ((p, w) :: P.zip vs) m x = _
    unfold bindL
    exact bindL_get (i := i) (List.nodup_cons.mp nd).2 (by simpa using h1) (by simpa using h2) hk
theorem bindC_get {kindOf : Str → Option NameKind} {x : Str} {v : Value} : ∀ {P : List Str} {vs : List Value} {i : Nat} {m : Str → Option Value}, P.Nodup → P[i]? = some x → vs[i]? = some v → kindOf x ≠ some .local →
    bindC kindOf (P.zip vs) m x = some v
  | [], _, _, _, _, h, _, _ => by simp at h
  | _ :: _, [], _, _, _, _, h, _ => by simp at h
  | p :: P, w :: vs, 0, m, nd, h1, h2, hk => by
    simp at h1 h2; subst h1; subst h2
    show bindC kindOf ((p, w) :: P.zip vs) m p = _
    unfold bindC
    rw [bindC_out fun v hv => (List.nodup_cons.mp nd).1 (List.of_mem_zip hv).1, if_neg hk]
    simp
  | p :: P, w :: vs, i + 1, m, nd, h1, h2, hk => by
    show bindC kindOf ((p, w) :: P.zip vs) m x = _
    unfold bindC
    exact bindC_get (i := i) (List.nodup_cons.mp nd).2 (by simpa using h1) (by simpa using h2) hk
def start (N : List Str) (vs : List V) : St := vs.map some ++ List.replicate (N.length - vs.length) none
def cxOf (CX : CXT) (P : Program) (w : World) (K : PySem.W.Frag) (mg : Str → Option Value) (base : Heap) (N : List Str) (qual : Str) (scope : Scope) (f : Addr) (cd : Value) (A : Around) (outer : List Env) (s : Shared) (H : Hp) (E : XK) : Cx where
  prog := P
  w := w
  K := K
  mg := mg
  base := base
  A := A.deeper (envOfC qual scope s.heap.objs.size f cd)
  N := N
  s₀ := s
  H₀ := H
  env := envOfC qual scope s.heap.objs.size f cd
  outer := outer
  stack := envOfC qual scope s.heap.objs.size f cd :: outer
  ex := []
  calm := true
  fn := fun _ => true
  pn := []
  xe := fun e s' => wpAny (model P w) (A.deeper (envOfC qual scope s.heap.objs.size f cd)) (leaving (envOfC qual scope s.heap.objs.size f cd) e) (fun _ s'' => CX outer H s E e s'') (fun e' s'' => CX outer H s E e' s'') s'
theorem cell_has {sc : Scope} {n : Nat} {x : Str} (h : sc.names.lookup x = some .cell) : ∃ c, (cellsFrom n sc.names []).lookup x = some c := by
  have q := PySem.W.cellsFrom_some sc.names n [] (.inl h)
  exact Option.isSome_iff_exists.mp q
theorem inv_start {CX : CXT} {P : Program} {w : World} {K : PySem.W.Frag} {mg : Str → Option Value} {base : Heap} {N ps : List Str} {qual : Str} {scope : Scope} {f : Addr} {cd : Value} {A : Around} {outer : List Env} {s s1 : Shared} {H : Hp} {E : XK} {us : List Value} {vs : List V}
    (S : FnScope N ps scope) (hd : A.handled = none) (e0 : Env0 P w K mg base A outer s H) (hl : vs.length = ps.length) (r : Vals vs us)
    (x : InCallC s s.heap.objs.size (bindL (envOfC qual scope s.heap.objs.size f cd).kindOf (ps.zip us) fun _ => none) (cellsFrom (s.heap.objs.size + 1) scope.names []) (bindC (envOfC qual scope s.heap.objs.size f cd).kindOf (ps.zip us) fun _ => none) s1) :
    Inv (cxOf CX P w K mg base N qual scope f cd A outer s H E) [] (start N vs) H s1 := by
  have hpl : ps.length ≤ N.length := by have := congrArg List.length S.pre; rw [List.length_take] at this; omega
  obtain ⟨h1, tk, rfl, hk⟩ := x.done
  have noA : ∀ b : Addr, b ∉ (cxOf CX P w K mg base N qual scope f cd A outer s H E).ex := fun b z => absurd (show b ∈ ([] : List Addr) from z) (by simp)
  refine ⟨⟨e0.mod, S.kind, rfl, rfl, Nat.le_refl _, fun y z c h1 h2 => ?_, fun y hy => ?_, fun y c _ h => ?_, fun _ => hd, Around.frames_deeper e0.frames, .inr ⟨rfl, rfl⟩, fun b z => absurd z (noA b), e0.bs, e0.bsz, fun b _ _ => noA b, fun b z => absurd z (noA b), e0.funs, e0.frf⟩,
    rfl, e0.bare, Un.kept hk, ⟨_, x.toInCall.ns, fun i y v h1 h2 h3 => ?_⟩, fun y c h => ⟨_, x.cell y c h⟩, e0.hok.fresh (Nat.le_refl _), fun y c h => ?_, fun p hp => absurd (show p ∈ ([] : List (Addr × Obj)) from hp) (by simp), e0.hok.kept hk, ?_⟩
  · exact name_of_addr x.apart (PySem.mem_of_lookup h1) (PySem.mem_of_lookup h2)
  · have hy : scope.names.lookup y = some .cell ∨ scope.names.lookup y = some .free := hy
    rcases hy with hy | hy
    · exact cell_has hy
    · exact absurd rfl (S.nofree _ (PySem.mem_of_lookup hy))
  · exact Nat.le_of_lt (x.above y c (PySem.mem_of_lookup h))
  · have hi : i < vs.length := by
      unfold start at h2
      by_cases hi : i < vs.length
      · exact hi
      · rw [List.getElem?_append_right (by simpa using hi)] at h2
        rw [List.getElem?_replicate] at h2
        split at h2 <;> cases h2
    have ha : vs[i]? = some v := by
      unfold start at h2
      rw [List.getElem?_append_left (by simpa using hi), List.getElem?_map] at h2
      cases e : vs[i]? with
      | none => rw [e] at h2; cases h2
      | some a => rw [e] at h2; cases h2; rfl
    obtain ⟨u, hu, rv⟩ := r.get ha
    have hp : ps[i]? = some y := by
      rw [← S.pre, List.getElem?_take_of_lt (by omega)]; exact h1
    have ndP : ps.Nodup := by rw [← S.pre]; exact S.nd.sublist (List.take_sublist _ _)
    refine ⟨u, rv, ?_⟩
    rcases S.par y (List.mem_of_getElem? hp) with k | k
    · exact .inl ⟨k, bindL_get ndP hp hu k⟩
    · obtain ⟨c, e⟩ := cell_has (n := s.heap.objs.size + 1) k
      refine .inr ⟨.inl k, c, e, ?_⟩
      have q := x.cell y c e
      rw [bindC_get ndP hp hu (by show scope.names.lookup y ≠ _; rw [k]; decide)] at q
      exact q
  · exact e0.hok.fresh (Nat.le_of_lt (x.above y c (PySem.mem_of_lookup h)))
  · unfold start
    show _ = N.length
    rw [List.length_append, List.length_map, List.length_replicate]
    omega
theorem fn_of {CX : CXT} {P : Program} {w : World} {K : PySem.W.Frag} {mg : Str → Option Value} {base : Heap} {k : Nat} {f : Addr} {name qual : Str} {params : Arguments} {body : List Stmt} {scope : Scope} {dV kV doc pm cdv ct oc : Value} {an od : Option Addr}
    {osl : Array (Option Value)} {N ps : List Str} {sp : Sp} (lk : K.lookup f = some ⟨oc, od, .func (PySem.W.fnOf name qual params body scope dV kV doc pm an cdv ct), osl⟩) (hcd : PySem.W.codeIn K cdv qual = true) (S : FnScope N ps scope)
    (len : ∀ vs H Q E, sp vs H Q E → vs.length = ps.length)
    (hbody : ∀ (A : Around) (outer : List Env) (s : Shared) (H : Hp) (vs : List V) (Q : VK) (E : XK), Room k (A.deeper (envOfC qual scope s.heap.objs.size f cdv)) → sp vs H Q E →
      ∃ t, PSs (cxOf CX P w K mg base N qual scope f cdv A outer s H E) body t ∧ t { nx := fun _ H' => Q .non H', rt := Q } (start N vs) H) :
    FnOk P w K mg base CX (k + 1) f (PySem.W.fnOf name qual params body scope dV kV doc pm an cdv ct) ps sp := by
  refine ⟨len, fun A outer s H args us vs Q E hr e0 hb r hsp => ?_⟩
  have hl := len _ _ _ _ hsp
  have KX : K.In s.heap := e0.mod.kin.keeps fun b o e => (e0.bs b o e).1
  have lim : s.heap.NoLimit := e0.mod.nolimit.keeps fun b o e => (e0.bs b o e).1
  have hkind : ∀ y ∈ ps.zip us, scope.names.lookup y.1 = some .local ∨ (scope.names.lookup y.1 = some .cell ∧ ((cellsFrom (s.heap.objs.size + 1) scope.names []).lookup y.1).isSome = true) := fun ⟨n, v⟩ hy => by
    rcases S.par n (List.of_mem_zip hy).1 with q | q
    · exact .inl q
    · exact .inr ⟨q, PySem.W.cellsFrom_some _ _ _ (.inl q)⟩
  refine codeAny_call_function hr.depth (KX _ _ lk) rfl S.co S.gen rfl (PySem.W.codeRec_of KX hcd) (hb _ _ _ _ ?_)
  refine wpAny_newFunctionEnv_cells S.kind hkind fun env he s1 x => ?_
  subst he
  refine ⟨lim.keeps x.toInCall.keep, codeAny_func ?_⟩
  obtain ⟨t, ht, hq⟩ := hbody A outer s H vs Q E (hr.deeper _) hsp
  have I : Inv (cxOf CX P w K mg base N qual scope f cdv A outer s H E) [] (start N vs) H s1 := inv_start S hr.hd e0 hl r x
  refine wpAny_mono (ht [] s1 (start N vs) H _ I hq) (fun fl s' hs => ?_) fun e s' hs => hs
  have fin : ∀ {σ' : St} {H' : Hp} {v : V} {u : Value}, Inv (cxOf CX P w K mg base N qual scope f cdv A outer s H E) [] σ' H' s' → RelV v u → Q v H' → CE outer P w H s Q u s' :=
    fun {σ' H' v u} J rv q => ⟨v, H', J.os, J.bare, J.base, J.hok, rv, q⟩
  cases fl with
  | ret u =>
    obtain ⟨v, σ', H', J, rv, q⟩ := hs
    exact fin J rv q
  | next =>
    obtain ⟨σ', H', J, q⟩ := hs
    exact fin (v := V.non) (u := Value.none) J rfl q
  | brk =>
    obtain ⟨_, _, _, q⟩ := hs
    exact False.elim q
  | cont =>
    obtain ⟨_, _, _, q⟩ := hs
    exact False.elim q
end L2
namespace L2
open PySem PySem.Spec PyProof.Rows
section
variable {X : Cx} {x : Str} {p pos : Pos} {e : Expr} {es : List Expr} {t : TA} {id T : String} {r : List V → Hp → VK → Prop}
def tCB (r : List V → Hp → VK → Prop) (t : TA) : TE := fun σ H Q => t σ H fun vs H1 => r vs H1 Q
theorem pe_callB (hc : CallR X (.builtin id) r) (hg : Gl X x) (hm : X.mg x = none) (hv : bootBuiltins x = some (.builtin id)) (ha : PA X (e :: es) t) (hn : x ≠ "__name__" := by decide) (hdb : (x == ("__debug__" : Str)) = false := by decide)
    (he : starEach (e :: es) X.env = (false, eval e X.env) :: starEach es X.env := by rfl) (hpl : (backTo pos (starEach es X.env)).any (·.1) = false := by rfl) : PE X (.Call (.Name x p) (e :: es) [] pos) (tCB r t) := by
  (first | refine ⟨?_⟩ | skip); intro pins s σ H Q I h
  refine wpAny_Call_Name_kw (ld_blt I hg hm hv ?_ hn hdb)
  exact PyProof.Rows.callWith_builtin1 (thn (ha pos pins s σ H _ I h) fun us s1 ⟨vs, H1, I1, r1, q1⟩ => hc pins s1 σ H1 vs us Q I1 r1 q1) he hpl
theorem pe_callTy (hc : CallR X (.type T) r) (hg : Gl X x) (hm : X.mg x = none) (hv : bootBuiltins x = some (.type T)) (ha : PA X (e :: es) t) (hn : x ≠ "__name__" := by decide) (hdb : (x == ("__debug__" : Str)) = false := by decide)
    (he : starEach (e :: es) X.env = (false, eval e X.env) :: starEach es X.env := by rfl) (hpl : (backTo pos (starEach es X.env)).any (·.1) = false := by rfl) : PE X (.Call (.Name x p) (e :: es) [] pos) (tCB r t) := by
  (first | refine ⟨?_⟩ | skip); intro pins s σ H Q I h
  refine wpAny_Call_Name_kw (ld_blt I hg hm hv ?_ hn hdb)
  exact PyProof.Rows.callWith_type1 (thn (ha pos pins s σ H _ I h) fun us s1 ⟨vs, H1, I1, r1, q1⟩ => hc pins s1 σ H1 vs us Q I1 r1 q1) he hpl
end
end L2
namespace HT
open PySem PyProof.Rows
def lexLt : List Int → List Int → Bool
  | [], [] => false
  | [], _ :: _ => true
  | _ :: _, [] => false
  | x :: xs, y :: ys => if x = y then lexLt xs ys else decide (x < y)
section
open PySem.SeqAt
open PySem.AutoSeq1 (wpAny_loadPart')
open PySem.MeetsSeq PySem.MeetsSeq2 PySem.MeetsSeq3
end
section
variable {prog : Program} {w : World} {A : Around} {E : Value → Shared → Prop} {s : Shared}
theorem cat_tup {t b : Addr} {vs ws : List Value} {Q : Value → Shared → Prop} (ht : IsTup s.heap t vs.toArray) (hb : IsTup s.heap b ws.toArray) (hv : vs ≠ [])
    (h1 : ws = [] → Q (.ref t) s) (h2 : ws ≠ [] → Q (.ref s.heap.objs.size) { s with heap := s.heap.push { cls := .type "tuple", data := .seq (vs ++ ws).toArray } })
    (hsz : vs.length + ws.length ≤ sizeLine) : wpAny (model prog w) A (binaryOp .Add (.ref t) (.ref b)) Q E s := by
  obtain ⟨⟨cls, dd, data, sl⟩, ho, hc, n, hd⟩ := id ht
  obtain ⟨⟨cls2, dd2, data2, sl2⟩, ho2, hc2, n2, hd2⟩ := id hb
  simp only at hc hd hc2 hd2
  subst hc hd hc2 hd2
  have e : vs.toArray ++ ws.toArray = (vs ++ ws).toArray := by simp
  by_cases hw : ws = []
  · exact concat_meets ⟨_, ho, rfl⟩ ⟨_, ho2, rfl⟩ noFill_tuple_add seq_tuple_add PySem.F.slot_tuple_add PySem.F.entry_tuple_add (PySem.F.args_tuple_add_2 _ _)
      (tuple_addW1 t b vs.toArray ws.toArray n n2 dd dd2 sl sl2 (by simpa using hv) (by simp [hw])) ⟨ho, ho2, h1 hw⟩
  · refine concat_meets ⟨_, ho, rfl⟩ ⟨_, ho2, rfl⟩ noFill_tuple_add seq_tuple_add PySem.F.slot_tuple_add PySem.F.entry_tuple_add (PySem.F.args_tuple_add_2 _ _)
      (tuple_addW2 t b vs.toArray ws.toArray n n2 dd dd2 sl sl2 (by simpa using hv) (by simpa using hw) (by rw [List.size_toArray, List.size_toArray]; exact hsz)) ⟨ho, ho2, ?_⟩
    rw [e]
    exact h2 hw
def sIx (n d : Nat) : Option Int → Nat
  | none => d
  | some v => if v < 0 then (v + (n : Int)).toNat else min v.toNat n
theorem sIx_none (n d : Nat) : sIx n d none = d := rfl
theorem sIx_nat (n d k : Nat) : sIx n d (some (k : Int)) = min k n := by
  show (if (k : Int) < 0 then ((k : Int) + (n : Int)).toNat else min (k : Int).toNat n) = min k n
  rw [if_neg (by omega), Int.toNat_natCast]
theorem sIx_le (n d : Nat) (hd : d ≤ n) (o : Option Int) : sIx n d o ≤ n := by
  cases o with
  | none => exact hd
  | some v =>
    show (if v < 0 then (v + (n : Int)).toNat else min v.toNat n) ≤ n
    by_cases hv : v < 0
    · rw [if_pos hv]; omega
    · rw [if_neg hv]; exact Nat.min_le_right _ _
theorem clip_eq (v : Int) (n d : Nat) : (if v < 0 then max (v + (n : Int)) 0 else min v (n : Int)) = ((sIx n d (some v) : Nat) : Int) := by
  show (if v < 0 then max (v + (n : Int)) 0 else min v (n : Int)) = (((if v < 0 then (v + (n : Int)).toNat else min v.toNat n) : Nat) : Int)
  by_cases hv : v < 0
  · simp only [if_pos hv]; omega
  · simp only [if_neg hv]; omega
theorem adjust_gen (lo hi : Option Int) (n : Nat) : Builtin.Slice.sliceAdjust lo hi 1 (n : Int) = (((sIx n 0 lo : Nat) : Int), ((sIx n n hi : Nat) : Int)) := by
  have h1 : ¬ ((1 : Int) < 0) := by omega
  unfold Builtin.Slice.sliceAdjust
  simp only [h1, if_false]
  refine Prod.ext ?_ ?_
  · cases lo with
    | none => rfl
    | some v => exact clip_eq v n 0
  · cases hi with
    | none => rfl
    | some v => exact clip_eq v n n
theorem places_gen (i j : Nat) : Builtin.Slice.slicePlaces (i : Int) (j : Int) 1 = j - i := by
  unfold Builtin.Slice.slicePlaces
  have h1 : (1 : Int) > 0 := by omega
  simp only [h1, if_true, Int.ediv_one]
  split <;> omega
theorem slicePart_ {v : Value} {o : Option Int} {Q : Option Int → Shared → Prop} (p : IsPart v o) (h : Q o s) : wpAny (model prog w) A (Builtin.Slice.slicePartIndex v) Q E s := by
  cases p with
  | none => exact slicePart_none h
  | int i t => exact slicePart_int h
theorem sliceApplied_gen {sl : Addr} {vl vu : Value} {lo hi : Option Int} {n : Nat} {Q : Int × Int × Nat → Shared → Prop} (hs : s.heap.IsSliceOf sl vl vu .none) (pl : IsPart vl lo) (pu : IsPart vu hi)
    (h : Q (((sIx n 0 lo : Nat) : Int), 1, sIx n n hi - sIx n 0 lo) s) : wpAny (model prog w) A (Builtin.Slice.sliceApplied (.ref sl) (pure (n : Int))) Q E s := by
  obtain ⟨os, hos, hcs, hds⟩ := id hs
  unfold Builtin.Slice.sliceApplied Builtin.Slice.sliceFields
  refine wpAny_bind (wpAny_bind (wpAny_field hos hds (x := vl) rfl (wpAny_bind (wpAny_field hos hds (x := vu) rfl (wpAny_bind (wpAny_field hos hds (x := .none) rfl (wpAny_pure ?_)))))))
  refine wpAny_bind (slicePart_none ?_)
  show wpAny _ _ (if ((1 : Int) == 0) = true then _ else _) _ _ s
  rw [if_neg (by decide)]
  refine wpAny_bind (slicePart_ pl (wpAny_bind (slicePart_ pu (wpAny_bind (wpAny_pure ?_)))))
  show wpAny _ _ (match Builtin.Slice.sliceAdjust lo hi 1 (n : Int) with | (lo, hi) => pure (lo, (1 : Int), Builtin.Slice.slicePlaces lo hi 1)) _ _ s
  rw [adjust_gen lo hi n]
  show wpAny _ _ (pure (((sIx n 0 lo : Nat) : Int), (1 : Int), Builtin.Slice.slicePlaces ((sIx n 0 lo : Nat) : Int) ((sIx n n hi : Nat) : Int) 1)) _ _ s
  rw [places_gen]
  exact wpAny_pure h
theorem pick_gen (xs : Array Value) (i k : Nat) : ((List.range k).filterMap fun (m : Nat) => xs[((i : Int) + (m : Int) * 1).toNat]?).toArray = ((xs.toList.drop i).take k).toArray := by
  have e : (fun (m : Nat) => xs[((i : Int) + (m : Int) * 1).toNat]?) = fun m => xs[i + m]? := by
    funext m
    have : ((i : Int) + (m : Int) * 1).toNat = i + m := by omega
    rw [this]
  rw [e]
  have := pick_run xs i k
  rw [List.filterMap_map] at this
  have e2 : ((fun x => xs[x]?) ∘ fun x => i + x) = fun m => xs[i + m]? := rfl
  rw [e2] at this
  rw [this]
theorem getItem_tuple_cut {t sl : Addr} {items : Array Value} {vl vu : Value} {lo hi : Option Int} {Q : Value → Shared → Prop} (ht : IsTup s.heap t items) (hs : s.heap.IsSliceOf sl vl vu .none) (pl : IsPart vl lo) (pu : IsPart vu hi)
    (hw : ¬ (sIx items.size 0 lo = 0 ∧ sIx items.size items.size hi = items.size))
    (h : Q (.ref s.heap.objs.size) { s with heap := s.heap.push { cls := .type "tuple", data := .seq ((items.toList.drop (sIx items.size 0 lo)).take (sIx items.size items.size hi - sIx items.size 0 lo)).toArray } })
    (hsz : items.size ≤ sizeLine) : wpAny (model prog w) A (getItem (.ref t) (.ref sl)) Q E s := by
  have htake : sizeOk (.seq ((items.toList.drop (sIx items.size 0 lo)).take (sIx items.size items.size hi - sIx items.size 0 lo)).toArray) := by
    show ((items.toList.drop (sIx items.size 0 lo)).take (sIx items.size items.size hi - sIx items.size 0 lo)).toArray.size ≤ sizeLine
    rw [List.size_toArray, List.length_take, List.length_drop, Array.length_toList]
    omega
  have hj : sIx items.size items.size hi ≤ items.size := sIx_le _ _ (Nat.le_refl _) hi
  obtain ⟨os, hos, hcs, hds⟩ := id hs
  have hTs : s.TypeIs (.ref sl) "slice" := ⟨os, hos, hcs⟩
  unfold getItem
  try with_reducible refine wpAny_holding ?_
  first | refine wpAny_bind (wpAny_pure ?_) | skip
  refine wpAny_bind (wpAny_sequenceKey ht.typeIs (by decide) ?_)
  refine wpAny_bind (wpAny_callSpecial?_slot (name := Str.ofString "__getitem__") ht.typeIs PyProof.Rows.slot_tuple_getitem
    (wpAny_call_entry PyProof.Rows.slot_tuple_getitem ht.typeIs entry_tuple_getitem ?_ (args_tuple_getitem _ _)))
  show wpAny _ _ (Builtin.Tuple.tupleItemsOf (.ref t) >>= _) _ _ s
  refine wpAny_bind (tupleItemsOf_ ht ?_)
  refine wpAny_bind (wpAny_typeOf hTs ?_)
  rw [if_pos (by decide)]
  refine wpAny_bind (sliceApplied_gen hs pl pu ?_)
  have hno : ¬ ((((sIx items.size 0 lo : Nat) : Int) == 0 && (1 : Int) == 1 && (sIx items.size items.size hi - sIx items.size 0 lo) == items.size) = true) := by
    intro q
    rw [Bool.and_eq_true, Bool.and_eq_true] at q
    have q1 : ((sIx items.size 0 lo : Nat) : Int) = 0 := eq_of_beq q.1.1
    have q2 : sIx items.size items.size hi - sIx items.size 0 lo = items.size := eq_of_beq q.2
    exact hw ⟨by omega, by omega⟩
  show wpAny _ _ (if (((sIx items.size 0 lo : Nat) : Int) == 0 && (1 : Int) == 1 && (sIx items.size items.size hi - sIx items.size 0 lo) == items.size) = true then _ else _) _ _ s
  rw [if_neg hno, pick_gen]
  first
    | exact wpAny_bind (m := Builtin.Tuple.tupleExact _) (wpAny_newObj_type (wpAny_pure ⟨_, rfl, wpAny_pure h⟩) htake)
    | exact wpAny_bind (m := Builtin.Tuple.tupleExact _) (wpAny_newObj_type (wpAny_bind (wpAny_pure (wpAny_pure ⟨_, rfl, wpAny_pure h⟩))) htake)
    | exact wpAny_bind (wpAny_bind (m := Builtin.Tuple.tupleExact _) (wpAny_newObj_type (wpAny_pure (wpAny_pure ⟨_, rfl, wpAny_pure h⟩)) htake))
    | exact wpAny_bind (wpAny_bind (m := Builtin.Tuple.tupleExact _) (wpAny_newObj_type (wpAny_pure ⟨_, rfl, wpAny_pure h⟩) htake))
end
end HT
namespace L2
open PySem PySem.Spec PyProof.Rows
abbrev TO := St → Hp → (Option Int → Hp → Prop) → Prop
def PO (X : Cx) (e : Option Expr) (t : TO) : Prop :=
  ∀ (pins : List (Addr × Obj)) (s : Shared) (σ : St) (H : Hp) (Q : Option Int → Hp → Prop), Inv X pins σ H s → t σ H Q →
    wpAny (model X.prog X.w) X.A (evalPart e X.env) (fun u s' => ∃ o H', Inv X pins σ H' s' ∧ IsPart u o ∧ Q o H') X.xe s
def tNoPart : TO := fun _ H Q => Q none H
def tPart (t : TE) : TO := fun σ H Q => t σ H fun x H1 => ∃ i, x = .int i ∧ Q (some i) H1
section
variable {X : Cx} {e : Expr} {te : TE} {lo hi : Option Expr} {tl th : TO} {pos p2 : Pos}
theorem po_none : PO X none tNoPart := by
  (first | refine ⟨?_⟩ | skip); intro pins s σ H Q I h
  rw [evalPart_none]
  exact wpAny_pure ⟨none, H, I, .none, h⟩
theorem po_some (h : PE X e te) : PO X (some e) (tPart te) := by
  (first | refine ⟨?_⟩ | skip); intro pins s σ H Q I hw
  rw [evalPart_some]
  refine thn (h pins s σ H _ I hw) fun u s1 ⟨x, H1, I1, r1, q1⟩ => ?_
  obtain ⟨i, rfl, q⟩ := q1
  obtain ⟨t, rfl⟩ := r1
  exact ⟨some i, H1, I1, .int i t, q⟩
def SlR (X : Cx) (r : V → Option Int → Option Int → Hp → VK → Prop) : Prop :=
  ∀ (pins : List (Addr × Obj)) (s : Shared) (σ : St) (H : Hp) (x : V) (v vl vu : Value) (lo hi : Option Int) (sl : Addr) (Q : VK), Inv X pins σ H s → RelV x v → s.heap.IsSliceOf sl vl vu .none → IsPart vl lo → IsPart vu hi → r x lo hi H Q →
    ∃ T id, typeLookup (.type T) "__getitem__" = pure (some (.builtin id)) ∧ s.TypeIs v T ∧ wpAny (model X.prog X.w) X.A (getItem v (.ref sl)) (EP X pins σ Q) X.xe s
theorem SlR.or {r r' : V → Option Int → Option Int → Hp → VK → Prop} (h : SlR X r) (h' : SlR X r') : SlR X (fun x lo hi H Q => r x lo hi H Q ∨ r' x lo hi H Q) := by
  (first | refine ⟨?_⟩ | skip); intro pins s σ H x v vl vu lo hi sl Q I rx hs pl pu q
  rcases q with q | q
  · exact h pins s σ H x v vl vu lo hi sl Q I rx hs pl pu q
  · exact h' pins s σ H x v vl vu lo hi sl Q I rx hs pl pu q
def tSl (r : V → Option Int → Option Int → Hp → VK → Prop) (te : TE) (tl th : TO) : TE := fun σ H Q => te σ H fun x H1 => tl σ H1 fun l H2 => th σ H2 fun u H3 => r x l u H3 Q
theorem pe_slice {r : V → Option Int → Option Int → Hp → VK → Prop} (hr : SlR X r) (he : PE X e te) (hl : PO X lo tl) (hu : PO X hi th) : PE X (.Subscript e (.Slice lo hi none p2) pos) (tSl r te tl th) := by
  (first | refine ⟨?_⟩ | skip); intro pins s σ H Q I h
  refine Subscript_ (thn (he pins s σ H _ I h) fun v s1 ⟨x, H1, I1, r1, q1⟩ => ?_)
  refine wpAny_Slice (thn (hl pins s1 σ H1 _ I1 q1) fun vl s2 ⟨l, H2, I2, pl, q2⟩ => thn (hu pins s2 σ H2 _ I2 q2) fun vu s3 ⟨u, H3, I3, pu, q3⟩ => ?_)
  rw [evalPart_none]
  refine wpAny_pure ?_
  have I4 : Inv X pins σ H3 { s3 with heap := s3.heap.push { cls := .type "slice", data := .fields #[vl, vu, .none] } } := I3.kept (t' := s3.toks) fun b ob q => Heap.get?_push_of_some _ q
  obtain ⟨T, id, hT, ht, hg⟩ := hr pins { s3 with heap := s3.heap.push { cls := .type "slice", data := .fields #[vl, vu, .none] } } σ H3 x v vl vu l u s3.heap.objs.size Q I4 r1 (Heap.IsSliceOf.new ..) pl pu q3
  show wpAny (model X.prog X.w) X.A (subscriptTail e (.Slice lo hi none p2) v (.ref s3.heap.objs.size)) (EP X pins σ Q) X.xe { s3 with heap := s3.heap.push { cls := .type "slice", data := .fields #[vl, vu, .none] } }
  exact tail_any (ops := [.ref s3.heap.objs.size, v]) ht hT hg (by with_unfolding_all rfl)
def cutV (xs : List V) (lo hi : Option Int) : List V := (xs.drop (HT.sIx xs.length 0 lo)).take (HT.sIx xs.length xs.length hi - HT.sIx xs.length 0 lo)
theorem cutV_length (xs : List V) (lo hi : Option Int) : (cutV xs lo hi).length ≤ xs.length := by
  unfold cutV
  rw [List.length_take, List.length_drop]
  omega
def rSlT (K : PySem.W.Frag) : V → Option Int → Option Int → Hp → VK → Prop := fun x lo hi H Q => ∃ a xs, x = .ref a ∧ SqT K H a xs ∧
  ¬ (HT.sIx xs.length 0 lo = 0 ∧ HT.sIx xs.length xs.length hi = xs.length) ∧ ∀ p, H p = none → Q (.ref p) (upd H p (.tup (cutV xs lo hi)))
theorem sl_tup : SlR X (rSlT X.K) := by
  (first | refine ⟨?_⟩ | skip); intro pins s σ H x v vl vu lo hi sl Q I rx hs pl pu h
  obtain ⟨a, xs, rfl, hx, hw, q⟩ := h
  cases rx
  obtain ⟨its, r, ht, hz⟩ := I.tuple hx
  have hlen : its.toArray.size = xs.length := by rw [List.size_toArray]; exact r.length.symm
  refine ⟨"tuple", _, PyProof.Rows.slot_tuple_getitem.lookup, ht.typeIs, ?_⟩
  refine HT.getItem_tuple_cut ht hs pl pu (by rw [hlen]; exact hw) ?_ (by rw [hlen]; exact hz)
  rw [hlen]
  refine ⟨.ref s.heap.objs.size, _, I.laid (t' := s.toks) (o := .tup (cutV xs lo hi)) (fun b ob q => Heap.get?_push_of_some _ q) (Nat.le_refl _) ?_, rfl, q _ (I.hok.fresh (Nat.le_refl _))⟩
  exact ⟨Nat.le_trans (cutV_length xs lo hi) hz, _, (r.drop (HT.sIx xs.length 0 lo)).take (HT.sIx xs.length xs.length hi - HT.sIx xs.length 0 lo), IsTup.new _ _⟩
def rLtT (K : PySem.W.Frag) : R2 := fun x y H Q => ∃ a b ns ms, x = .ref a ∧ y = .ref b ∧ SqT K H a (ns.map V.int) ∧ SqT K H b (ms.map V.int) ∧ Q (.bl (HT.lexLt ns ms)) H
def rCatT (K : PySem.W.Frag) : R2 := fun x y H Q => ∃ a b xs ys, x = .ref a ∧ y = .ref b ∧ SqT K H a xs ∧ SqT K H b ys ∧ xs ≠ [] ∧ xs.length + ys.length ≤ sizeLine ∧
  (ys = [] → Q (.ref a) H) ∧ (ys ≠ [] → ∀ p, H p = none → Q (.ref p) (upd H p (.tup (xs ++ ys))))
theorem Vals.nil_iff {xs : List V} {us : List Value} (r : Vals xs us) : us = [] ↔ xs = [] := by
  cases r with
  | nil => simp
  | cons _ _ => simp
theorem op_catT : OpR X (binaryOp .Add) (rCatT X.K) := by
  (first | refine ⟨?_⟩ | skip); intro pins s σ H x y v u Q I rx ry h
  obtain ⟨a, b, xs, ys, rfl, rfl, ha, hb, hx, hz, q1, q2⟩ := h
  cases rx
  cases ry
  obtain ⟨its, r1, p1, _⟩ := I.tuple ha
  obtain ⟨its2, r2, p2, _⟩ := I.tuple hb
  refine HT.cat_tup p1 p2 (fun z => hx (r1.nil_iff.mp z)) (fun z => ⟨.ref a, H, I, rfl, q1 (r2.nil_iff.mp z)⟩) (fun z => ?_) (by rw [← r1.length, ← r2.length]; exact hz)
  refine ⟨.ref s.heap.objs.size, _, I.laid (t' := s.toks) (o := .tup (xs ++ ys)) (fun b ob q => Heap.get?_push_of_some _ q) (Nat.le_refl _) ?_, rfl, q2 (fun w => z (r2.nil_iff.mpr w)) _ (I.hok.fresh (Nat.le_refl _))⟩
  exact ⟨by rw [List.length_append]; exact hz, _, r1.append r2, IsTup.new _ _⟩
end
end L2
namespace L2
open PySem PySem.Spec PyProof.Rows
def ixN (n : Nat) (i : Int) : Option Nat := if 0 ≤ i then (if i < n then some i.toNat else none) else if -(n : Int) ≤ i then some (i + n).toNat else none
def atI {α : Type} (xs : List α) (i : Int) : Option α := (ixN xs.length i).bind fun j => xs[j]?
theorem ixN_seq {n : Nat} {i : Int} {j : Nat} (h : ixN n i = some j) : seqIndex? i n = some j ∧ j < n ∧ -(n : Int) ≤ i ∧ i < n := by
  unfold ixN at h
  by_cases h0 : 0 ≤ i
  · rw [if_pos h0] at h
    by_cases h1 : i < n
    · rw [if_pos h1] at h
      have e : i.toNat = j := Option.some.inj h
      exact ⟨by rw [seqIndex_of h0 h1, e], by omega, by omega, h1⟩
    · rw [if_neg h1] at h; cases h
  · rw [if_neg h0] at h
    by_cases h1 : -(n : Int) ≤ i
    · rw [if_pos h1] at h
      have e : (i + n).toNat = j := Option.some.inj h
      exact ⟨by rw [seqIndex_neg (by omega) h1, e], by omega, h1, by omega⟩
    · rw [if_neg h1] at h; cases h
theorem atI_get {α : Type} {xs : List α} {i : Int} {v : α} (h : atI xs i = some v) : ∃ j, seqIndex? i xs.length = some j ∧ xs[j]? = some v ∧ j < xs.length ∧ -(xs.length : Int) ≤ i ∧ i < xs.length := by
  unfold atI at h
  cases e : ixN xs.length i with
  | none => rw [e] at h; cases h
  | some j =>
    rw [e] at h
    obtain ⟨h1, h2, h3, h4⟩ := ixN_seq e
    exact ⟨j, h1, h, h2, h3, h4⟩
theorem atI_nat {α : Type} {xs : List α} {j : Nat} {v : α} (h : xs[j]? = some v) : atI xs (j : Int) = some v := by
  have hj : j < xs.length := (List.getElem?_eq_some_iff.mp h).1
  have e : ixN xs.length (j : Int) = some j := by
    unfold ixN
    rw [if_pos (by omega), if_pos (by omega)]; simp
  unfold atI; rw [e]; exact h
def PlainIx (b : Expr) : Prop := ∀ o i, subscripted b false o i = operate [o, i] (getItem o i)
def IxR (X : Cx) (r : R2) : Prop :=
  ∀ (value slice : Expr) (pins : List (Addr × Obj)) (s : Shared) (σ : St) (H : Hp) (x y : V) (v u : Value) (Q : VK), Inv X pins σ H s → RelV x v → RelV y u → r x y H Q →
    subscripted slice false v u = operate [v, u] (getItem v u) → wpAny (model X.prog X.w) X.A (subscriptTail value slice v u) (EP X pins σ Q) X.xe s
def MtR (X : Cx) (id : String) (r : V → List V → Hp → VK → Prop) : Prop :=
  ∀ (pins : List (Addr × Obj)) (s : Shared) (σ : St) (H : Hp) (x : V) (xs : List V) (v : Value) (us : List Value) (Q : VK), Inv X pins σ H s → RelV x v → Vals xs us → r x xs H Q →
    wpAny (model X.prog X.w) X.A (call (.builtin id) (v :: us)) (EP X pins σ Q) X.xe s
section
variable {X : Cx} {a b : Expr} {ta tb : TE} {pos : Pos}
theorem IxR.or {r r' : R2} (h : IxR X r) (h' : IxR X r') : IxR X (fun x y H Q => r x y H Q ∨ r' x y H Q) := by
  intro value slice pins s σ H x y v u Q I rx ry q hs
  rcases q with q | q
  · exact h value slice pins s σ H x y v u Q I rx ry q hs
  · exact h' value slice pins s σ H x y v u Q I rx ry q hs
theorem MtR.or {id : String} {r r' : V → List V → Hp → VK → Prop} (h : MtR X id r) (h' : MtR X id r') : MtR X id (fun x xs H Q => r x xs H Q ∨ r' x xs H Q) := by
  (first | refine ⟨?_⟩ | skip); intro pins s σ H x xs v us Q I rx rs q
  rcases q with q | q
  · exact h pins s σ H x xs v us Q I rx rs q
  · exact h' pins s σ H x xs v us Q I rx rs q
theorem pe_ix {r : R2} (hr : IxR X r) (ha : PE X a ta) (hb : PE X b tb) (hs : PlainIx b) : PE X (.Subscript a b pos) (tOp r ta tb) := by
  (first | refine ⟨?_⟩ | skip); intro pins s σ H Q I h
  exact Subscript_ (binT ha hb I h fun v u s2 x y H2 I2 rx ry q => hr a b pins s2 σ H2 x y v u Q I2 rx ry q (hs _ _))
def rIxL (K : PySem.W.Frag) : R2 := fun x y H Q => ∃ p xs i v, x = .ref p ∧ y = .int i ∧ SqL K H p xs ∧ atI xs i = some v ∧ Q v H
def rIxT (K : PySem.W.Frag) : R2 := fun x y H Q => ∃ p xs i v, x = .ref p ∧ y = .int i ∧ SqT K H p xs ∧ atI xs i = some v ∧ Q v H
def rIxS : R2 := fun x y H Q => ∃ z i c, x = .str z ∧ y = .int i ∧ z.length ≤ sizeLine ∧ atI z.cps.toList i = some c ∧ Q (.str ⟨#[c]⟩) H
theorem ix_list : IxR X (rIxL X.K) := by
  intro value slice pins s σ H x y v u Q I rx ry h hs
  obtain ⟨p, xs, i, z, rfl, rfl, hq, he, q⟩ := h
  cases rx
  obtain ⟨t, rfl⟩ := ry
  obtain ⟨its, r, pl, hz⟩ := I.list hq
  obtain ⟨j, h1, h2, h3, h4, h5⟩ := atI_get he
  obtain ⟨w, ew, rw'⟩ := r.get h2
  have hl := r.length
  have hn := line63
  have fin : EP X pins σ Q w s := ⟨z, H, I, rw', q⟩
  by_cases h0 : 0 ≤ i
  · have hj : i.toNat = j := by
      rw [seqIndex_of h0 h5] at h1
      exact Option.some.inj h1
    exact item_listR pl.isList h0 (by omega) (by rw [hj]; simpa using ew) fin hs
  · have hj : (i + (its.toArray.size : Int)).toNat = j := by
      rw [seqIndex_neg (by omega) h4] at h1
      rw [List.size_toArray, ← hl]
      exact Option.some.inj h1
    exact subscriptTail_builtinR (x := w) pl.isList.typeIs slot_list_getitem.lookup
      (wpAny_getItem_list_neg (Q := fun r s' => r = w ∧ EP X pins σ Q r s') pl.isList (by omega) (by rw [List.size_toArray] <;> omega) (by omega) (by rw [hj]; simpa using ew) ⟨rfl, fin⟩) hs
theorem ix_tup : IxR X (rIxT X.K) := by
  intro value slice pins s σ H x y v u Q I rx ry h hs
  obtain ⟨p, xs, i, z, rfl, rfl, hq, he, q⟩ := h
  cases rx
  obtain ⟨t, rfl⟩ := ry
  obtain ⟨its, r, pl, hz⟩ := I.tuple hq
  obtain ⟨j, h1, h2, h3, h4, h5⟩ := atI_get he
  obtain ⟨w, ew, rw'⟩ := r.get h2
  have hl := r.length
  have hn := line63
  have fin : EP X pins σ Q w s := ⟨z, H, I, rw', q⟩
  exact subscriptTail_builtinR (x := w) pl.typeIs slot_tuple_getitem.lookup
    (getItem_tuple (j := j) (Q := fun r s' => r = w ∧ EP X pins σ Q r s') pl (by omega) (by omega) (by rw [List.size_toArray, ← hl]; exact h1) (by simpa using ew) ⟨rfl, fin⟩) hs
theorem ix_str : IxR X rIxS := by
  intro value slice pins s σ H x y v u Q I rx ry h hs
  obtain ⟨z, i, c, rfl, rfl, hz, he, q⟩ := h
  obtain ⟨t, rfl⟩ := rx
  obtain ⟨t', rfl⟩ := ry
  obtain ⟨j, h1, h2, h3, h4, h5⟩ := atI_get he
  have hl : z.cps.toList.length = z.length := by simp [Str.length]
  rw [hl] at h1 h4 h5
  have hn := line63
  exact tail_any (typeIs_str s z t) slot_str_getitem.lookup (getItem_str (c := c) (by
    have e1 : decide (i < -(2 ^ 63 : Int)) = false := decide_eq_false (by omega)
    have e2 : decide (i ≥ 2 ^ 63) = false := decide_eq_false (by omega)
    rw [e1, e2, Bool.or_false]) (by rw [h1]; simpa using h2) ⟨.str ⟨#[c]⟩, H, I.tok _, ⟨_, rfl⟩, q⟩) hs
def rIx (K : PySem.W.Frag) : R2 := fun x y H Q => rIxL K x y H Q ∨ rIxT K x y H Q ∨ rIxS x y H Q
theorem ix_seq : IxR X (rIx X.K) := ix_list.or (ix_tup.or ix_str)
theorem mapSeq_set (its : List Value) (n j : Nat) (u : Value) : Obj.mapSeq (·.setIfInBounds j u) { cls := .type "list", data := .seq its.toArray n } = { cls := .type "list", data := .seq (its.set j u).toArray n } := by
  simp [Obj.mapSeq]
theorem Inv.lst {pins : List (Addr × Obj)} {σ : St} {H : Hp} {s : Shared} {p : Addr} {xs : List V} (I : Inv X pins σ H s) (h : H p = some (.lst xs)) :
    ∃ (its : List Value) (n : Nat), Vals xs its ∧ s.heap.get? p = some { cls := .type "list", data := .seq its.toArray n } ∧ xs.length ≤ sizeLine := by
  obtain ⟨z, its, n, r, e⟩ := I.hok p _ h
  exact ⟨its, n, r, e, z⟩
theorem Inv.lstUpd {pins : List (Addr × Obj)} {σ : St} {H : Hp} {s : Shared} {p : Addr} {xs ys : List V} {its its' : List Value} {n n' : Nat} {f : Obj → Obj} (I : Inv X pins σ H s) (h : H p = some (.lst xs))
    (ho : s.heap.get? p = some { cls := .type "list", data := .seq its.toArray n }) (hf : f { cls := .type "list", data := .seq its.toArray n } = { cls := .type "list", data := .seq its'.toArray n' }) (r : Vals ys its') (hz : ys.length ≤ sizeLine) (t : Nat) :
    Inv X pins σ (upd H p (.lst ys)) { s with heap := s.heap.update p f, toks := t } := by
  have e : (s.heap.update p f).get? p = some { cls := .type "list", data := .seq its'.toArray n' } := by
    rw [Heap.get?_update_self f ho (by rw [hf] <;> rfl), hf]
  refine I.write (x := p) (e := p) (by rw [h]; trivial) (.inl rfl) (fun b u hb q => (Heap.get?_update_other _ _ (Ne.symm hb)).trans q) ⟨_, e⟩ ?_
  exact ⟨hz, its', n', r, e⟩
def rSetL : V → V → V → Hp → (Hp → Prop) → Prop := fun o i v H Q => ∃ p xs k j, o = .ref p ∧ i = .int k ∧ H p = some (.lst xs) ∧ ixN xs.length k = some j ∧ Q (upd H p (.lst (xs.set j v)))
theorem set_list : PSet X rSetL := by
  (first | refine ⟨?_⟩ | skip); intro pins s σ H o i v ov iv u Q I ro ri rv h
  obtain ⟨p, xs, k, j, rfl, rfl, hp, hj, q⟩ := h
  cases ro
  obtain ⟨t, rfl⟩ := ri
  obtain ⟨its, n, r, ho, hz⟩ := I.lst hp
  obtain ⟨h1, h2, h3, h4⟩ := ixN_seq hj
  have hl := r.length
  have hn := line63
  have I' : Inv X pins σ (upd H p (.lst (xs.set j v))) { s with heap := s.heap.update p (Obj.mapSeq (·.setIfInBounds j u)) } :=
    I.lstUpd hp ho (mapSeq_set its n j u) (r.set rv j) (by rw [List.length_set]; exact hz) s.toks
  by_cases h0 : 0 ≤ k
  · have hk : k.toNat = j := by
      rw [seqIndex_of h0 h4] at h1
      exact Option.some.inj h1
    exact PySem.W.ki_setAt ho h0 (by omega) (by rw [List.size_toArray, ← hl]; exact h4) (by rw [hk]; exact ⟨_, I', q⟩)
  · have hk : (k + (its.toArray.size : Int)).toNat = j := by
      rw [seqIndex_neg (by omega) h3] at h1
      rw [List.size_toArray, ← hl]
      exact Option.some.inj h1
    exact PySem.W.ki_setBack ho (by omega) (by rw [List.size_toArray, ← hl]; exact h3) (by omega) (by rw [hk]; exact ⟨_, I', q⟩)
theorem slice_bounds (lo hi : Option Int) (n : Nat) : (sliceBounds lo hi none n).1 = ((HT.sIx n 0 lo : Nat) : Int) ∧ (sliceBounds lo hi none n).2.1 = ((HT.sIx n n hi : Nat) : Int) ∧ (sliceBounds lo hi none n).2.2 = 1 := by
  refine ⟨?_, ?_, rfl⟩
  · cases lo with
    | none => simp [sliceBounds, HT.sIx]
    | some i =>
      simp only [sliceBounds, HT.sIx, Option.getD_none, show (1 : Int) > 0 by decide, if_true]
      by_cases h : i < 0
      · simp only [h, if_true] <;> omega
      · simp only [h, if_false] <;> omega
  · cases hi with
    | none => simp [sliceBounds, HT.sIx]
    | some i =>
      simp only [sliceBounds, HT.sIx, Option.getD_none, show (1 : Int) > 0 by decide, if_true]
      by_cases h : i < 0
      · simp only [h, if_true] <;> omega
      · simp only [h, if_false] <;> omega
theorem slicePick_cut (its : List Value) (lo hi : Option Int) : slicePick its.toArray lo hi none = ((its.drop (HT.sIx its.length 0 lo)).take (HT.sIx its.length its.length hi - HT.sIx its.length 0 lo)).toArray := by
  obtain ⟨h1, h2, h3⟩ := slice_bounds lo hi its.toArray.size
  unfold slicePick
  rw [h1, h2, h3]
  simp only [sliceRange_one, pick_run, List.size_toArray] <;> rfl
def rSlL (K : PySem.W.Frag) : V → Option Int → Option Int → Hp → VK → Prop := fun x lo hi H Q => ∃ a xs, x = .ref a ∧ SqL K H a xs ∧ ∀ p, H p = none → Q (.ref p) (upd H p (.lst (cutV xs lo hi)))
theorem sl_list : SlR X (rSlL X.K) := by
  (first | refine ⟨?_⟩ | skip); intro pins s σ H x v vl vu lo hi sl Q I rx hs pl pu h
  obtain ⟨a, xs, rfl, hx, q⟩ := h
  cases rx
  obtain ⟨its, r, ht, hz⟩ := I.list hx
  have hlen := r.length
  refine ⟨"list", _, slot_list_getitem.lookup, ht.isList.typeIs, ?_⟩
  refine wpAny_getItem_list_slice ht.isList hs pl pu .none (by simp) ?_ (by rw [List.size_toArray] <;> omega)
  rw [slicePick_cut, ← hlen]
  refine ⟨.ref s.heap.objs.size, _, I.laid (t' := s.toks) (o := .lst (cutV xs lo hi)) (fun b ob q => Heap.get?_push_of_some _ q) (Nat.le_refl _) ?_, rfl, q _ (I.hok.fresh (Nat.le_refl _))⟩
  exact ⟨Nat.le_trans (cutV_length xs lo hi) hz, _, 0, (r.drop (HT.sIx xs.length 0 lo)).take (HT.sIx xs.length xs.length hi - HT.sIx xs.length 0 lo), Heap.get?_push_size _ rfl⟩
def flatV : V → Bool
  | .non => true
  | .bl _ => true
  | .int _ => true
  | .str _ => true
  | _ => false
def eqV : V → V → Bool
  | .non, .non => true
  | .bl a, .bl b => a == b
  | .bl a, .int b => (if a then 1 else 0) == b
  | .int a, .bl b => a == (if b then 1 else 0)
  | .int a, .int b => a == b
  | .str a, .str b => a == b
  | _, _ => false
def eqU (x : V) (u : Value) : Bool := match u with
  | .none => eqV .non x
  | .bool b => eqV (.bl b) x
  | .int i _ => eqV (.int i) x
  | .str z _ => eqV (.str z) x
  | _ => false
def inV (x : V) (xs : List V) : Bool := xs.any fun y => eqV y x
def rIn (K : PySem.W.Frag) (neg : Bool) : R2 := fun x y H Q => ∃ p xs, y = .ref p ∧ (SqL K H p xs ∨ SqT K H p xs) ∧ flatV x = true ∧ xs.all flatV = true ∧ Q (.bl (if neg then !inV x xs else inV x xs)) H
theorem call_len_seq : CallR X (.builtin "len") (fun xs H Q => ∃ p ys, xs = [.ref p] ∧ (SqL X.K H p ys ∨ SqT X.K H p ys) ∧ Q (.int ys.length) H) := by
  (first | refine ⟨?_⟩ | skip); intro pins s σ H xs us Q I r h
  obtain ⟨p, ys, rfl, hq, q⟩ := h
  obtain ⟨u, rfl, rx⟩ := vals1 r
  cases rx
  have hn := line63
  rcases hq with hq | hq
  · obtain ⟨its, r', pl, hz⟩ := I.list hq
    have hlen := r'.length
    exact Calls.call_len_list pl.isList (by simp only [List.size_toArray] <;> omega) ⟨.int ys.length, H, I.tok _, ⟨s.toks + 1, by rw [List.size_toArray, hlen]⟩, q⟩
  · obtain ⟨its, r', pl, hz⟩ := I.tuple hq
    have hlen := r'.length
    exact len_tuple pl (by simp only [List.size_toArray] <;> omega) ⟨.int ys.length, H, I.tok _, ⟨s.toks + 1, by rw [List.size_toArray, hlen]⟩, q⟩
theorem call_len_str : CallR X (.builtin "len") (fun xs H Q => ∃ z, xs = [.str z] ∧ z.length ≤ sizeLine ∧ Q (.int z.length) H) := by
  (first | refine ⟨?_⟩ | skip); intro pins s σ H xs us Q I r h
  obtain ⟨z, rfl, hz, q⟩ := h
  obtain ⟨u, rfl, t, rfl⟩ := vals1 r
  have hn := line63
  exact len_str (by omega) ⟨.int z.length, H, I.tok _, ⟨_, rfl⟩, q⟩
theorem CallR.or {f : Value} {r r' : List V → Hp → VK → Prop} (h : CallR X f r) (h' : CallR X f r') : CallR X f (fun xs H Q => r xs H Q ∨ r' xs H Q) := by
  (first | refine ⟨?_⟩ | skip); intro pins s σ H xs us Q I rs q
  rcases q with q | q
  · exact h pins s σ H xs us Q I rs q
  · exact h' pins s σ H xs us Q I rs q
theorem call_list_of : CallR X (.type "list") (fun xs H Q => ∃ p ys, xs = [.ref p] ∧ (SqL X.K H p ys ∨ SqT X.K H p ys) ∧ ∀ l, H l = none → Q (.ref l) (upd H l (.lst ys))) := by
  (first | refine ⟨?_⟩ | skip); intro pins s σ H xs us Q I r h
  obtain ⟨p, ys, rfl, hq, q⟩ := h
  obtain ⟨u, rfl, rx⟩ := vals1 r
  cases rx
  have fin : ∀ (its : List Value), Vals ys its → ys.length ≤ sizeLine → ∀ (h' : Heap) (c' : Nat), (∀ b o', s.heap.get? b = some o' → h'.get? b = some o') →
      h'.get? s.heap.objs.size = some { cls := .type "list", dict := none, data := .seq its.toArray c', slots := #[] } → EP X pins σ Q (.ref s.heap.objs.size) { s with heap := h' } := fun its r' hz h' c' kp e =>
    ⟨.ref s.heap.objs.size, _, I.laid (t' := s.toks) kp (Nat.le_refl _) (show ObjOk X.prog X.w _ h' _ (.lst ys) from ⟨hz, its, c', r', e⟩), rfl, q _ (I.hok.fresh (Nat.le_refl _))⟩
  rcases hq with hq | hq
  · obtain ⟨its, r', pl, hz⟩ := I.list hq
    have hlen := r'.length
    obtain ⟨o, ho, hc, n, hd⟩ := pl.isList
    exact call_list_seq p (.inl rfl) ho hc hd (fun h' c' kp e => fin its r' hz h' c' kp e) (by simp only [List.size_toArray] <;> omega)
  · obtain ⟨its, r', pl, hz⟩ := I.tuple hq
    have hlen := r'.length
    obtain ⟨o, ho, hc, n, hd⟩ := pl
    exact call_list_seq p (.inr rfl) ho hc hd (fun h' c' kp e => fin its r' hz h' c' kp e) (by simp only [List.size_toArray] <;> omega)
theorem call_tuple_of : CallR X (.type "tuple") (fun xs H Q => ∃ p ys, xs = [.ref p] ∧ ((SqL X.K H p ys ∧ ∀ l, H l = none → Q (.ref l) (upd H l (.tup ys))) ∨ (SqT X.K H p ys ∧ Q (.ref p) H))) := by
  (first | refine ⟨?_⟩ | skip); intro pins s σ H xs us Q I r h
  obtain ⟨p, ys, rfl, h⟩ := h
  obtain ⟨u, rfl, rx⟩ := vals1 r
  cases rx
  rcases h with ⟨hq, q⟩ | ⟨hq, q⟩
  · obtain ⟨its, r', pl, hz⟩ := I.list hq
    have hlen := r'.length
    refine call_tuple_list pl.isList (fun h' kp => ?_) (by simp only [List.size_toArray] <;> omega)
    have I1 : Inv X pins σ H { s with heap := h' } := I.kept (t' := s.toks) kp
    have I2 : Inv X pins σ (upd H h'.objs.size (.tup ys)) { s with heap := h'.push { cls := .type "tuple", data := .seq its.toArray } } :=
      I1.laid (t' := s.toks) (fun b o e => Heap.get?_push_of_some _ e) (Nat.le_refl _) (show ObjOk X.prog X.w _ _ _ (.tup ys) from ⟨hz, its, r', IsTup.new _ _⟩)
    exact ⟨.ref h'.objs.size, _, I2, rfl, q _ (I1.hok.fresh (Nat.le_refl _))⟩
  · obtain ⟨its, r', pl, hz⟩ := I.tuple hq
    exact call_tuple_same pl ⟨.ref p, H, I, rfl, q⟩
def tyV (K : PySem.W.Frag) (T : String) (x : V) (H : Hp) : Prop := match x with
  | .str _ => T = "str"
  | .int _ => T = "int"
  | .ref p => (T = "list" ∧ ∃ xs, SqL K H p xs) ∨ (T = "tuple" ∧ ∃ o, K.lookup p = some o ∧ o.cls = .type "tuple" ∧ o.dict = none) ∨
      (T = "dict" ∧ ((∃ kvs, H p = some (.dK kvs)) ∨ ∃ kvs, H p = some (.dT kvs))) ∨ (T = "set" ∧ ∃ S n, H p = some (.set S n))
  | _ => False
theorem tyV_is {pins : List (Addr × Obj)} {σ : St} {H : Hp} {s : Shared} {T : String} {x : V} {v : Value} (I : Inv X pins σ H s) (r : RelV x v) (ty : tyV X.K T x H) :
    s.TypeIs v T ∧ ∀ a, v = .ref a → ∃ ob, s.heap.get? a = some ob ∧ ob.dict = none := by
  cases x with
  | str z =>
    obtain ⟨t, rfl⟩ := r
    cases (show T = "str" from ty)
    exact ⟨typeIs_str s z t, fun _ e => nomatch e⟩
  | int i =>
    obtain ⟨t, rfl⟩ := r
    cases (show T = "int" from ty)
    exact ⟨typeIs_int s i t, fun _ e => nomatch e⟩
  | ref p =>
    cases r
    rcases ty with ⟨rfl, xs, hq⟩ | ⟨rfl, o, hk, hc, hd⟩ | ⟨rfl, hk⟩ | ⟨rfl, S, n, hk⟩
    · obtain ⟨its, _, pl, _⟩ := I.list hq
      refine ⟨pl.isList.typeIs, fun a e => ?_⟩
      cases e
      obtain ⟨o, n, e, c, hd, _⟩ := pl
      exact ⟨o, e, hd⟩
    · refine ⟨⟨o, I.kIn p o hk, hc⟩, fun a e => ?_⟩
      cases e
      exact ⟨o, I.kIn _ o hk, hd⟩
    · have z : ∃ o, s.heap.get? p = some o ∧ o.ExactDict := by
        rcases hk with ⟨kvs, hk⟩ | ⟨kvs, hk⟩
        · obtain ⟨_, _, _, _, o, _, _, e, ex, _⟩ := I.hok p _ hk
          exact ⟨o, e, ex⟩
        · obtain ⟨_, _, _, _, o, _, _, e, ex, _⟩ := I.hok p _ hk
          exact ⟨o, e, ex⟩
      obtain ⟨o, e, ex⟩ := z
      refine ⟨⟨o, e, ex.1⟩, fun a e2 => ?_⟩
      cases e2
      exact ⟨o, e, ex.2.1⟩
    · obtain ⟨o, _, _, _, e, ex, _⟩ := I.hok p _ hk
      refine ⟨⟨o, e, ex.1⟩, fun a e2 => ?_⟩
      cases e2
      exact ⟨o, e, ex.2.1⟩
  | _ => exact False.elim ty
def tBM0 (K : PySem.W.Frag) (T : String) (r : V → List V → Hp → VK → Prop) (to : TE) : TE := fun σ H Q => to σ H fun x H1 => tyV K T x H1 ∧ r x [] H1 Q
def tBM (K : PySem.W.Frag) (T : String) (r : V → List V → Hp → VK → Prop) (to : TE) (t : TA) : TE := fun σ H Q => to σ H fun x H1 => tyV K T x H1 ∧ t σ H1 fun xs H2 => r x xs H2 Q
variable {o e : Expr} {es : List Expr} {to : TE} {t : TA} {name : Str} {apos cpos : Pos} {T id : String} {r : V → List V → Hp → VK → Prop}
theorem pe_bm (pa : PlainAttrs T) (slot : Slot T name id) (hty : typeOf (.builtin id) = pure (.type "method_descriptor")) (hm : MtR X id r) (ho : PE X o to) (ha : PA X (e :: es) t)
    (hbase : attributeBase o name X.env (eval o X.env) = eval o X.env := by rfl)
    (hfew : ((backTo cpos (starEach (e :: es) X.env)).all (fun x => !x.1) && (backToKw cpos (keywordEach [] X.env)).all (fun x => x.1.isSome)
      && decide ((e :: es).length + ([] : List Keyword).length + (if ([] : List Keyword).isEmpty then 0 else 1) < 30)) = true := by rfl)
    (hline : (apos.endLine == cpos.line) = true := by rfl) (hs : starEach (e :: es) X.env = (false, eval e X.env) :: starEach es X.env := by rfl) (hplain : (backTo cpos (starEach es X.env)).any (·.1) = false := by rfl) :
    PE X (.Call (.Attribute o name apos) (e :: es) [] cpos) (tBM X.K T r to t) := by
  (first | refine ⟨?_⟩ | skip); intro pins s σ H Q I h
  refine wpAny_Call_method_late hbase hfew hline rfl (thn (ho pins s σ H _ I h) fun v s1 ⟨x, H1, I1, r1, ty, q1⟩ => ?_)
  obtain ⟨h1, h2⟩ := tyV_is I1 r1 ty
  refine ⟨T, id, pa, slot, hty, h1, h2, ?_⟩
  have hA := ha cpos pins s1 σ H1 _ I1 q1
  rw [hs] at hA ⊢
  refine Calls.callWith_builtin (by show (false || (backTo cpos (starEach es X.env)).any (·.1)) = false; rw [hplain] <;> rfl) (Calls.evalArgs_plain ?_)
  exact thn hA fun us s2 ⟨vs, H2, I2, r2, q2⟩ => hm pins s2 σ H2 x vs v us Q I2 r1 r2 q2
end
end L2
namespace L2
open PySem PySem.Spec PyProof.Rows
def MtM (X : Cx) (id : String) (r : V → List V → Hp → VK → Prop) : Prop :=
  ∀ (pins : List (Addr × Obj)) (s : Shared) (σ : St) (H : Hp) (x : V) (xs : List V) (v : Value) (us : List Value) (Q : VK), Inv X pins σ H s → RelV x v → Vals xs us → r x xs H Q →
    wpAny (model X.prog X.w) X.A (call (.builtin id) (v :: us)) (EP X pins σ Q) X.xe s
theorem Vals.one : ∀ {x : V} {us : List Value}, Vals [x] us → ∃ u, us = [u] ∧ RelV x u
  | _, _, .cons r .nil => ⟨_, rfl, r⟩
theorem Vals.two : ∀ {x y : V} {us : List Value}, Vals [x, y] us → ∃ u v, us = [u, v] ∧ RelV x u ∧ RelV y v
  | _, _, _, .cons r (.cons q .nil) => ⟨_, _, rfl, r, q⟩
theorem Vals.zero : ∀ {us : List Value}, Vals [] us → us = []
  | _, .nil => rfl
theorem Vals.dropLast {xs : List V} {us : List Value} (h : Vals xs us) : Vals xs.dropLast us.dropLast := by
  induction h with
  | nil => exact .nil
  | cons r t ih =>
    cases t with
    | nil => exact .nil
    | cons q t' => exact .cons r ih
theorem Vals.eraseIdx : ∀ {xs : List V} {us : List Value} (i : Nat), Vals xs us → Vals (xs.eraseIdx i) (us.eraseIdx i)
  | _, _, _, .nil => .nil
  | _, _, 0, .cons _ t => t
  | _, _, i + 1, .cons r t => .cons r (Vals.eraseIdx i t)
theorem Vals.reverse {xs : List V} {us : List Value} (h : Vals xs us) : Vals xs.reverse us.reverse := by
  induction h with
  | nil => exact .nil
  | cons r t ih => rw [List.reverse_cons, List.reverse_cons]; exact Vals.append ih (.cons r .nil)
theorem len_erase {α : Type} : ∀ (l : List α) (i : Nat), (l.eraseIdx i).length ≤ l.length
  | [], _ => Nat.le_refl _
  | _ :: _, 0 => Nat.le_succ _
  | _ :: r, i + 1 => Nat.succ_le_succ (len_erase r i)
section
variable {X : Cx} {pins : List (Addr × Obj)} {σ : St} {H : Hp} {s : Shared} {l b : Addr} {xs ys zs : List V}
theorem Inv.lset {its its' : List Value} {n : Nat} {f : Array Value → Array Value} {t' : Nat} (I : Inv X pins σ H s) (hH : H l = some (.lst xs))
    (e : s.heap.get? l = some { cls := .type "list", data := .seq its.toArray n }) (hf : f its.toArray = its'.toArray) (hv : Vals ys its') (hz : ys.length ≤ sizeLine) :
    Inv X pins σ (upd H l (.lst ys)) { s with heap := s.heap.update l (Obj.mapSeq f), toks := t' } := by
  have q := PySem.IsL.update e f
  rw [hf] at q
  refine I.write (x := l) (e := l) (by rw [hH]; exact trivial) (.inl rfl) (fun b' u hb hu => (Heap.get?_update_other s.heap (Obj.mapSeq f) (Ne.symm hb)).trans hu) ⟨_, q⟩ ?_
  exact ⟨hz, its', _, hv, q⟩
theorem Inv.lnew {its : List Value} {t' : Nat} (I : Inv X pins σ H s) (hv : Vals ys its) (hz : ys.length ≤ sizeLine) :
    Inv X pins σ (upd H s.heap.objs.size (.lst ys)) { s with heap := s.heap.push { cls := .type "list", data := .seq its.toArray }, toks := t' } :=
  I.laid (fun _ _ q => Heap.get?_push_of_some _ q) (Nat.le_refl _) ⟨hz, its, 0, hv, Heap.get?_push_size _ rfl⟩
theorem Inv.fresh (I : Inv X pins σ H s) : H s.heap.objs.size = none := I.hok.fresh (Nat.le_refl _)
theorem Inv.lstM (I : Inv X pins σ H s) (hH : H l = some (.lst xs)) : xs.length ≤ sizeLine ∧ ∃ (its : List Value) (n : Nat), Vals xs its ∧ xs.length = its.length ∧ s.heap.get? l = some { cls := .type "list", data := .seq its.toArray n } := by
  obtain ⟨z, its, n, r, e⟩ := I.hok l _ hH
  exact ⟨z, its, n, r, r.length, e⟩
theorem notLongL {n : Nat} (h : n ≤ sizeLine) : Builtin.List.listTooLong n = false := by
  unfold Builtin.List.listTooLong
  exact decide_eq_false (by omega)
end
section
variable {X : Cx}
def rAppend : V → List V → Hp → VK → Prop := fun x vs H Q => ∃ l xs y, x = .ref l ∧ vs = [y] ∧ H l = some (.lst xs) ∧ xs.length < sizeLine ∧ Q .non (upd H l (.lst (xs ++ [y])))
theorem mt_append : MtM X "list.append" rAppend := by
  (first | refine ⟨?_⟩ | skip); intro pins s σ H x vs v us Q I rx rv h
  obtain ⟨l, xs, y, rfl, rfl, hH, hz, q⟩ := h
  cases rx
  obtain ⟨u, rfl, ru⟩ := rv.one
  obtain ⟨z, its, n, r, hl, e⟩ := I.lstM hH
  refine call_meets F.slot_list_append ⟨_, e, rfl⟩ F.entry_list_append (F.args_list_append_2 _ _) (PySem.list_append l its.toArray n u (by rw [List.size_toArray]; omega)) ⟨e, ?_⟩
  refine ⟨.non, _, I.lset (its' := its ++ [u]) hH e (by simp) (r.append (.cons ru .nil)) ?_, rfl, q⟩
  rw [List.length_append, List.length_singleton]
  omega
def rExtend : V → List V → Hp → VK → Prop := fun x vs H Q => ∃ l b xs zs, x = .ref l ∧ vs = [.ref b] ∧ H l = some (.lst xs) ∧ H b = some (.lst zs) ∧ xs.length + zs.length ≤ sizeLine ∧ Q .non (upd H l (.lst (xs ++ zs)))
theorem mt_extend : MtM X "list.extend" rExtend := by
  (first | refine ⟨?_⟩ | skip); intro pins s σ H x vs v us Q I rx rv h
  obtain ⟨l, b, xs, zs, rfl, rfl, hH, hB, hz, q⟩ := h
  cases rx
  obtain ⟨u, rfl, ru⟩ := rv.one
  cases ru
  obtain ⟨z, its, n, r, hl, e⟩ := I.lstM hH
  obtain ⟨z2, its2, n2, r2, hl2, e2⟩ := I.lstM hB
  have hsz : its.toArray.size + its2.toArray.size ≤ sizeLine := by rw [List.size_toArray, List.size_toArray]; omega
  have hlong : ¬ (!its.toArray.isEmpty && Builtin.List.listTooLong (its.toArray.size + its2.toArray.size)) = true := by
    rw [notLongL hsz, Bool.and_false]
    exact Bool.false_ne_true
  refine call_meets F.slot_list_extend ⟨_, e, rfl⟩ F.entry_list_extend (F.args_list_extend_2 _ _)
    (AutoSeq1.list_extend_list_list_0 l its.toArray n b its2.toArray n2 hlong (by rw [List.size_toArray]; omega) (by omega)) ⟨e, e2, ?_⟩
  refine ⟨.non, _, I.lset (its' := its ++ its2) hH e (by simp) (r.append r2) ?_, rfl, q⟩
  rw [List.length_append]
  omega
def rPop : V → List V → Hp → VK → Prop := fun x vs H Q => ∃ l xs y, x = .ref l ∧ vs = [] ∧ H l = some (.lst xs) ∧ xs[xs.length - 1]? = some y ∧ Q y (upd H l (.lst xs.dropLast))
def rPopAt : V → List V → Hp → VK → Prop := fun x vs H Q => ∃ l xs i k y, x = .ref l ∧ vs = [.int i] ∧ H l = some (.lst xs) ∧ -(2 ^ 63) ≤ i ∧ i < 2 ^ 63 ∧ seqIndex? i xs.length = some k ∧ xs[k]? = some y ∧ Q y (upd H l (.lst (xs.eraseIdx k)))
theorem mt_popAt : MtM X "list.pop" rPopAt := by
  (first | refine ⟨?_⟩ | skip); intro pins s σ H x vs v us Q I rx rv h
  obtain ⟨l, xs, i, k, y, rfl, rfl, hH, h1, h2, hk, hy, q⟩ := h
  cases rx
  obtain ⟨u, rfl, ru⟩ := rv.one
  obtain ⟨t, rfl⟩ := ru
  obtain ⟨z, its, n, r, hl, e⟩ := I.lstM hH
  obtain ⟨w, hw, rw'⟩ := r.get hy
  refine call_meets F.slot_list_pop ⟨_, e, rfl⟩ F.entry_list_pop (F.args_list_pop_2 _ _)
    (MeetsSeq.list_pop_at l its.toArray n i t k w (fitsIndex_both h1 h2) (by rw [List.size_toArray, ← hl]; exact hk) (by rw [← Array.getElem?_toList]; exact hw) (by rw [List.size_toArray]; omega)) ⟨e, ?_⟩
  refine ⟨y, _, I.lset (its' := its.eraseIdx k) hH e ?_ (r.eraseIdx k) ?_, rw', q⟩
  · show its.toArray.eraseIdxIfInBounds k = (its.eraseIdx k).toArray
    rw [List.eraseIdxIfInBounds_toArray]
  · have := len_erase xs k
    omega
def rReverse : V → List V → Hp → VK → Prop := fun x vs H Q => ∃ l xs, x = .ref l ∧ vs = [] ∧ H l = some (.lst xs) ∧ Q .non (upd H l (.lst xs.reverse))
def rClear : V → List V → Hp → VK → Prop := fun x vs H Q => ∃ l xs, x = .ref l ∧ vs = [] ∧ H l = some (.lst xs) ∧ Q .non (upd H l (.lst []))
def rCat : R2 := fun x y H Q => ∃ l b xs zs, x = .ref l ∧ y = .ref b ∧ H l = some (.lst xs) ∧ H b = some (.lst zs) ∧ xs.length + zs.length ≤ sizeLine ∧ ∀ p, H p = none → Q (.ref p) (upd H p (.lst (xs ++ zs)))
theorem op_cat : OpR X (binaryOp .Add) rCat := by
  (first | refine ⟨?_⟩ | skip); intro pins s σ H x y v u Q I rx ry h
  obtain ⟨l, b, xs, zs, rfl, rfl, hH, hB, hz, q⟩ := h
  cases rx
  cases ry
  obtain ⟨z, its, n, r, hl, e⟩ := I.lstM hH
  obtain ⟨z2, its2, n2, r2, hl2, e2⟩ := I.lstM hB
  refine PySem.P.add_list e e2 ?_ (by rw [List.size_toArray, List.size_toArray]; omega)
  have ea : its.toArray ++ its2.toArray = (its ++ its2).toArray := by simp
  rw [ea]
  exact ⟨.ref _, _, I.lnew (t' := s.toks) (r.append r2) (by rw [List.length_append]; omega), rfl, q _ I.fresh⟩
def rRep : R2 := fun x y H Q => ∃ l k xs, x = .ref l ∧ y = .int k ∧ H l = some (.lst xs) ∧ -(2 ^ 63) ≤ k ∧ k < 2 ^ 63 ∧ xs.length * k.toNat ≤ sizeLine ∧
  ∀ p, H p = none → Q (.ref p) (upd H p (.lst (List.replicate k.toNat xs).flatten))
end
section
variable {prog : Program} {w : World} {A : Around} {E : Value → Shared → Prop} {s : Shared}
end
section
variable {X : Cx}
end
end L2
namespace L2
open PySem PySem.Spec PyProof.Rows
section
variable {κ : Type} [DecidableEq κ]
def valV (kvs : List (κ × V)) (k : κ) : Option V := (kvs.find? fun kv => decide (kv.1 = k)).map (·.2)
def putK (kvs : List (κ × V)) (k : κ) (v : V) : List (κ × V) :=
  if (kvs.any fun kv => decide (kv.1 = k)) = true then kvs.map (fun kv => if kv.1 = k then (kv.1, v) else kv) else kvs ++ [(k, v)]
def dropK (kvs : List (κ × V)) (k : κ) : List (κ × V) := kvs.filter fun kv => decide (kv.1 ≠ k)
theorem valV_pos {p : κ × V} {r : List (κ × V)} {k : κ} (e : p.1 = k) : valV (p :: r) k = some p.2 := by simp [valV, List.find?_cons, e]
theorem valV_neg {p : κ × V} {r : List (κ × V)} {k : κ} (e : ¬ p.1 = k) : valV (p :: r) k = valV r k := by simp [valV, List.find?_cons, e]
theorem valV_any (k : κ) : ∀ kvs : List (κ × V), (kvs.any fun kv => decide (kv.1 = k)) = (valV kvs k).isSome
  | [] => rfl
  | p :: r => by
    rw [List.any_cons]
    by_cases e : p.1 = k
    · simp only [valV_pos e, decide_eq_true e, Bool.true_or, Option.isSome_some]
    · rw [valV_neg e, decide_eq_false e, Bool.false_or]; exact valV_any k r
theorem RelO.isSome_eq {o : Option V} {u : Option Value} (r : RelO o u) : o.isSome = u.isSome := by
  cases o with
  | none => cases u with
    | none => rfl
    | some _ => exact (show False from r).elim
  | some _ => cases u with
    | none => exact (show False from r).elim
    | some _ => rfl
theorem RelO.getD {o : Option V} {u : Option Value} {d : V} {d' : Value} (r : RelO o u) (rd : RelV d d') : RelV (o.getD d) (u.getD d') := by
  cases o with
  | none => cases u with
    | none => exact rd
    | some _ => exact (show False from r).elim
  | some _ => cases u with
    | none => exact (show False from r).elim
    | some _ => exact r
theorem KV.val {kvs : List (κ × V)} {vs : List (κ × Value)} (r : KV kvs vs) (k : κ) : RelO (valV kvs k) (valueAt vs k) := by
  unfold KV at r
  induction r with
  | nil => exact True.intro
  | @cons p q ps qs h t ih =>
    obtain ⟨h1, h2⟩ := h
    by_cases e : p.1 = k
    · have e' : q.1 = k := h1.symm.trans e
      have b : valueAt (q :: qs) k = some q.2 := by simp [valueAt, List.find?_cons, e']
      rw [valV_pos e, b]; exact h2
    · have e' : ¬ q.1 = k := fun z => e (h1.trans z)
      have b : valueAt (q :: qs) k = valueAt qs k := by simp [valueAt, List.find?_cons, e']
      rw [valV_neg e, b]; exact ih
theorem KV.any {kvs : List (κ × V)} {vs : List (κ × Value)} (r : KV kvs vs) (k : κ) : (kvs.any fun kv => decide (kv.1 = k)) = vs.any fun kv => decide (kv.1 = k) := by
  unfold KV at r
  induction r with
  | nil => rfl
  | cons h t ih => rw [List.any_cons, List.any_cons, ih, h.1]
theorem KV.repl {kvs : List (κ × V)} {vs : List (κ × Value)} (r : KV kvs vs) (k : κ) {y : V} {u : Value} (ry : RelV y u) :
    KV (kvs.map fun kv => if kv.1 = k then (kv.1, y) else kv) (vs.map fun kv => if kv.1 = k then (kv.1, u) else kv) := by
  unfold KV at r ⊢
  induction r with
  | nil => exact .nil
  | @cons p q ps qs h t ih =>
    rw [List.map_cons, List.map_cons]
    refine .cons ?_ ih
    obtain ⟨h1, h2⟩ := h
    by_cases e : p.1 = k
    · rw [if_pos e, if_pos (h1.symm.trans e)]; exact ⟨h1, ry⟩
    · rw [if_neg e, if_neg (fun z => e (h1.trans z))]; exact ⟨h1, h2⟩
theorem KV.put {kvs : List (κ × V)} {vs : List (κ × Value)} (r : KV kvs vs) (k : κ) {y : V} {u : Value} (ry : RelV y u) : KV (putK kvs k y) (stored vs k u) := by
  unfold putK stored
  rw [r.any k]
  by_cases e : (vs.any fun kv => decide (kv.1 = k)) = true
  · rw [if_pos e, if_pos e]; exact r.repl k ry
  · rw [if_neg e, if_neg e]; exact Paired.snoc r ⟨rfl, ry⟩
theorem KV.drop {kvs : List (κ × V)} {vs : List (κ × Value)} (r : KV kvs vs) (k : κ) : KV (dropK kvs k) (without vs k) := by
  unfold KV at r ⊢
  unfold dropK without
  induction r with
  | nil => exact .nil
  | @cons p q ps qs h t ih =>
    obtain ⟨h1, h2⟩ := h
    rw [List.filter_cons, List.filter_cons]
    by_cases e : p.1 = k
    · have a : ¬ decide (p.1 ≠ k) = true := by simp [e]
      have b : ¬ decide (q.1 ≠ k) = true := by simp [h1.symm.trans e]
      rw [if_neg a, if_neg b]; exact ih
    · have e' : ¬ q.1 = k := fun z => e (h1.trans z)
      have a : decide (p.1 ≠ k) = true := by simp [e]
      have b : decide (q.1 ≠ k) = true := by simp [e']
      rw [if_pos a, if_pos b]; exact .cons ⟨h1, h2⟩ ih
theorem KV.keys {kvs : List (κ × V)} {vs : List (κ × Value)} (r : KV kvs vs) : kvs.map (·.1) = vs.map (·.1) := by
  unfold KV at r
  induction r with
  | nil => rfl
  | cons h t ih => rw [List.map_cons, List.map_cons, ih, h.1]
theorem KV.length {kvs : List (κ × V)} {vs : List (κ × Value)} (r : KV kvs vs) : kvs.length = vs.length := Paired.length r
end
abbrev KT (H : Hp) : List (List Key × V) → List (List Key × Addr × Value) → Prop := Paired fun p q => p.1 = q.1 ∧ H q.2.1 = some (.tup (p.1.map kV)) ∧ RelV p.2 q.2.2
theorem KT.val {H : Hp} {kvs : List (List Key × V)} {xs : List (List Key × Addr × Value)} (r : KT H kvs xs) (k : List Key) : RelO (valV kvs k) ((atKey xs k).map (·.2)) := by
  induction r with
  | nil => exact True.intro
  | @cons p q ps qs h t ih =>
    obtain ⟨h1, _, h2⟩ := h
    by_cases e : p.1 = k
    · have e' : q.1 = k := h1.symm.trans e
      have b : atKey (q :: qs) k = some q.2 := by simp [atKey, List.find?_cons, e']
      rw [valV_pos e, b]; exact h2
    · have e' : ¬ q.1 = k := fun z => e (h1.trans z)
      have b : atKey (q :: qs) k = atKey qs k := by simp [atKey, List.find?_cons, e']
      rw [valV_neg e, b]; exact ih
theorem KT.repl {H : Hp} {kvs : List (List Key × V)} {xs : List (List Key × Addr × Value)} (r : KT H kvs xs) (k : List Key) {y : V} {u : Value} (ry : RelV y u) :
    KT H (kvs.map fun kv => if kv.1 = k then (kv.1, y) else kv) (xs.map (putAt k u)) := by
  induction r with
  | nil => exact .nil
  | @cons p q ps qs h t ih =>
    rw [List.map_cons, List.map_cons]
    refine .cons ?_ ih
    obtain ⟨h1, h2, h3⟩ := h
    unfold putAt
    by_cases e : p.1 = k
    · rw [if_pos e, if_pos (h1.symm.trans e)]; exact ⟨h1, h2, ry⟩
    · rw [if_neg e, if_neg (fun z => e (h1.trans z))]; exact ⟨h1, h2, h3⟩
theorem KT.put {H : Hp} {kvs : List (List Key × V)} {xs : List (List Key × Addr × Value)} (r : KT H kvs xs) (k : List Key) {b : Addr} {y : V} {u : Value} (hb : H b = some (.tup (k.map kV))) (ry : RelV y u) :
    KT H (putK kvs k y) (storedH xs k b u) := by
  have e : (kvs.any fun kv => decide (kv.1 = k)) = (atKey xs k).isSome := by
    rw [valV_any, (r.val k).isSome_eq, Option.isSome_map]
  unfold putK storedH
  rw [e]
  by_cases q : (atKey xs k).isSome = true
  · rw [if_pos q, if_pos q]; exact r.repl k ry
  · rw [if_neg q, if_neg q]; exact Paired.snoc r ⟨rfl, hb, ry⟩
theorem KT.keeps {H H' : Hp} {kvs : List (List Key × V)} {xs : List (List Key × Addr × Value)} (r : KT H kvs xs) (ht : ∀ b ys, H b = some (.tup ys) → H' b = some (.tup ys)) : KT H' kvs xs :=
  Paired.mapP r fun _ _ z => ⟨z.1, ht _ _ z.2.1, z.2.2⟩
section
variable {P : Program} {w : World} {H : Hp} {h : Heap} {a : Addr}
theorem rd_of {u : HO} (ok : HOk P w H h) (e : Rd H a u) : ObjOk P w H h a u := e.ok ok
theorem dk_rd {kvs : List (Key × V)} (ok : HOk P w H h) (e : Rd H a (.dK kvs)) : kvs.length ≤ sizeLine ∧ (a == sysModules) = false ∧ ∃ vs, KV kvs vs ∧ h.DictOf (mixKind P w) a vs :=
  show ObjOk P w H h a (.dK kvs) from rd_of ok e
end
def DGet (H : Hp) (a : Addr) (y : V) (r : Option V) : Prop :=
  (∃ kvs k, Rd H a (.dK kvs) ∧ y = kV k ∧ r = valV kvs k) ∨ ∃ kvs k b, Rd H a (.dT kvs) ∧ y = .ref b ∧ H b = some (.tup (k.map kV)) ∧ r = valV kvs k
def DPut (H : Hp) (a : Addr) (y v : V) (H' : Hp) : Prop :=
  (∃ kvs k, H a = some (.dK kvs) ∧ y = kV k ∧ kvs.length < sizeLine ∧ H' = upd H a (.dK (putK kvs k v))) ∨
  ∃ kvs k b, H a = some (.dT kvs) ∧ y = .ref b ∧ H b = some (.tup (k.map kV)) ∧ kvs.length < sizeLine ∧ H' = upd H a (.dT (putK kvs k v))
theorem DGet.k {H : Hp} {a : Addr} {kvs : List (Key × V)} {k : Key} (e : H a = some (.dK kvs)) : DGet H a (kV k) (valV kvs k) := .inl ⟨kvs, k, .inl e, rfl, rfl⟩
theorem DGet.t {H : Hp} {a b : Addr} {kvs : List (List Key × V)} {k : List Key} (e : H a = some (.dT kvs)) (eb : H b = some (.tup (k.map kV))) : DGet H a (.ref b) (valV kvs k) := .inr ⟨kvs, k, b, .inl e, rfl, eb, rfl⟩
theorem DPut.k {H : Hp} {a : Addr} {kvs : List (Key × V)} {k : Key} {v : V} (e : H a = some (.dK kvs)) (hl : kvs.length < sizeLine) : DPut H a (kV k) v (upd H a (.dK (putK kvs k v))) := .inl ⟨kvs, k, e, rfl, hl, rfl⟩
theorem DPut.t {H : Hp} {a b : Addr} {kvs : List (List Key × V)} {k : List Key} {v : V} (e : H a = some (.dT kvs)) (eb : H b = some (.tup (k.map kV))) (hl : kvs.length < sizeLine) :
    DPut H a (.ref b) v (upd H a (.dT (putK kvs k v))) := .inr ⟨kvs, k, b, e, rfl, eb, hl, rfl⟩
section
variable {X : Cx} {pins : List (Addr × Obj)} {σ : St} {H : Hp} {s : Shared} {a : Addr} {y v : V} {u r : Value} {o : Option V} {A : Around} {E : Value → Shared → Prop}
theorem Inv.big (I : Inv X pins σ H s) : sysModules < s.heap.objs.size := by
  have h : mainGlobals < s.heap.objs.size := (I.mod.glob.keeps I.bk).lt
  exact Nat.lt_trans (by decide) h
end
section
variable {X : Cx} {pins : List (Addr × Obj)} {σ : St} {H : Hp} {s : Shared} {a : Addr} {kvs : List (Key × V)} {k : Key} {u : Value} {A : Around} {E : Value → Shared → Prop}
end
def NoSl (i : Expr) : Prop := ∀ ov iv, subscripted i false ov iv = operate [ov, iv] (getItem ov iv)
def tDGet (td ty : TE) : TE := fun σ H Q => td σ H fun x H1 => ty σ H1 fun y H2 => ∃ a v, x = .ref a ∧ DGet H2 a y (some v) ∧ Q v H2
def tDIn (ty td : TE) : TE := fun σ H Q => ty σ H fun y H1 => td σ H1 fun x H2 => ∃ a o, x = .ref a ∧ DGet H2 a y o ∧ Q (.bl o.isSome) H2
def tDNotIn (ty td : TE) : TE := fun σ H Q => ty σ H fun y H1 => td σ H1 fun x H2 => ∃ a o, x = .ref a ∧ DGet H2 a y o ∧ Q (.bl (!o.isSome)) H2
def sDPut (td ty tv : TE) : TS := fun D σ H => tv σ H fun v H1 => td σ H1 fun x H2 => ty σ H2 fun y H3 => ∃ a H4, x = .ref a ∧ DPut H3 a y v H4 ∧ D.nx σ H4
def sDAug (td ty tv : TE) (rd : V → V → Hp → VK → Prop) : TS := fun D σ H => td σ H fun x H1 => ty σ H1 fun y H2 => ∃ a v, x = .ref a ∧ DGet H2 a y (some v) ∧
  tv σ H2 fun y2 H3 => rd v y2 H3 fun z H4 => ∃ H5, DPut H4 a y z H5 ∧ D.nx σ H5
def sDDel (td ty : TE) : TS := fun D σ H => td σ H fun x H1 => ty σ H1 fun y H2 => ∃ a kvs k, x = .ref a ∧ H2 a = some (.dK kvs) ∧ y = kV k ∧ (valV kvs k).isSome = true ∧ D.nx σ (upd H2 a (.dK (dropK kvs k)))
section
variable {X : Cx} {o i e value : Expr} {pos pos' tpos : Pos} {td ty tv : TE}
end
def tDNewK : TE := fun _ H Q => ∀ p, H p = none → Q (.ref p) (upd H p (.dK []))
def tDNewT : TE := fun _ H Q => ∀ p, H p = none → Q (.ref p) (upd H p (.dT []))
section
variable {X : Cx} {pos : Pos}
end
def tPairs : List (TE × TE) → St → Hp → (List (V × V) → Hp → Prop) → Prop
  | [], _, H, Q => Q [] H
  | (tk, tv) :: r, σ, H, Q => tk σ H fun x H1 => tv σ H1 fun y H2 => tPairs r σ H2 fun ps H3 => Q ((x, y) :: ps) H3
abbrev VV : List (V × V) → List (Value × Value) → Prop := Paired fun p q => RelV p.1 q.1 ∧ RelV p.2 q.2
def PPs (X : Cx) (pos : Pos) (keys : List (Option Expr)) (values : List Expr) (trs : List (TE × TE)) : Prop :=
  ∀ (pins : List (Addr × Obj)) (s : Shared) (σ : St) (H : Hp) (Q : List (V × V) → Hp → Prop), Inv X pins σ H s → tPairs trs σ H Q →
    wpAny (model X.prog X.w) X.A (evalPairs (pairTrees keys values X.env pos)) (fun vs s' => ∃ ps H', Inv X pins σ H' s' ∧ VV ps vs ∧ Q ps H') X.xe s
def mergeK (kvs more : List (Key × V)) : List (Key × V) := more.foldl (fun acc kv => putK acc kv.1 kv.2) kvs
theorem KV.merge : ∀ {more : List (Key × V)} {rs : List (Key × Value)} {kvs : List (Key × V)} {vs : List (Key × Value)}, KV more rs → KV kvs vs → KV (mergeK kvs more) (merged vs rs) := by
  intro more rs kvs vs r
  unfold KV at r
  induction r generalizing kvs vs with
  | nil => intro q; exact q
  | @cons p q ps qs h t ih =>
    intro r0
    have e : KV (putK kvs p.1 p.2) (stored vs q.1 q.2) := by
      have := r0.put p.1 h.2
      rw [← h.1]; exact this
    exact ih e
def tDisp (trs : List (TE × TE)) : TE := fun σ H Q => ∀ p, H p = none → tPairs trs σ (upd H p (.dK [])) fun ps H2 => H2 p = some (.dK []) ∧ ∃ kvs : List (Key × V), ps = kvs.map (fun kv => (kV kv.1, kv.2)) ∧ kvs.length ≤ 15 ∧ Q (.ref p) (upd H2 p (.dK (mergeK [] kvs)))
structure M1 (X : Cx) (o : Expr) (m : Str) (apos : Pos) (e : Expr) (cpos : Pos) : Prop where
  base : attributeBase o m X.env (eval o X.env) = eval o X.env
  few : ((backTo cpos (starEach [e] X.env)).all (fun x => !x.1) && (backToKw cpos (keywordEach [] X.env)).all (fun x => x.1.isSome)
    && decide (([e] : List Expr).length + ([] : List Keyword).length + (if ([] : List Keyword).isEmpty then 0 else 1) < 30)) = true
  line : (apos.endLine == cpos.line) = true
  trees : backTo cpos (starEach [e] X.env) = [(false, eval e X.env)]
structure M2 (X : Cx) (o : Expr) (m : Str) (apos : Pos) (e f : Expr) (cpos : Pos) : Prop where
  base : attributeBase o m X.env (eval o X.env) = eval o X.env
  few : ((backTo cpos (starEach [e, f] X.env)).all (fun x => !x.1) && (backToKw cpos (keywordEach [] X.env)).all (fun x => x.1.isSome)
    && decide (([e, f] : List Expr).length + ([] : List Keyword).length + (if ([] : List Keyword).isEmpty then 0 else 1) < 30)) = true
  line : (apos.endLine == cpos.line) = true
  trees : backTo cpos (starEach [e, f] X.env) = [(false, eval e X.env), (false, eval f X.env)]
def IsD (H : Hp) (a : Addr) : Prop := (∃ kvs, Rd H a (.dK kvs)) ∨ ∃ kvs, Rd H a (.dT kvs)
section
variable {X : Cx} {pins : List (Addr × Obj)} {σ : St} {H : Hp} {s : Shared} {a : Addr} {y d : V} {u r : Value} {o : Option V} {A : Around} {E : Value → Shared → Prop}
end
def tDGet1 (td ty : TE) : TE := fun σ H Q => td σ H fun x H1 => ∃ a, x = .ref a ∧ IsD H1 a ∧ ty σ H1 fun y H2 => ∃ o, DGet H2 a y o ∧ Q (o.getD .non) H2
def tDGet2 (td ty tx : TE) : TE := fun σ H Q => td σ H fun x H1 => ∃ a, x = .ref a ∧ IsD H1 a ∧ ty σ H1 fun y H2 => tx σ H2 fun z H3 => ∃ o, DGet H3 a y o ∧ Q (o.getD z) H3
def tDPop1 (td ty : TE) : TE := fun σ H Q => td σ H fun x H1 => ∃ a, x = .ref a ∧ IsD H1 a ∧ ty σ H1 fun y H2 => ∃ kvs k v, H2 a = some (.dK kvs) ∧ y = kV k ∧ valV kvs k = some v ∧ Q v (upd H2 a (.dK (dropK kvs k)))
def tDPop2 (td ty tx : TE) : TE := fun σ H Q => td σ H fun x H1 => ∃ a, x = .ref a ∧ IsD H1 a ∧ ty σ H1 fun y H2 => tx σ H2 fun z H3 => ∃ kvs k, H3 a = some (.dK kvs) ∧ y = kV k ∧
  (∀ v, valV kvs k = some v → Q v (upd H3 a (.dK (dropK kvs k)))) ∧ (valV kvs k = none → Q z H3)
section
variable {X : Cx} {o e f : Expr} {apos cpos : Pos} {td ty tx : TE}
end
section
variable {X : Cx} {pins : List (Addr × Obj)} {σ : St} {H : Hp} {s : Shared} {a : Addr} {kvs : List (Key × V)} {A : Around} {E : Value → Shared → Prop}
end
section
variable {X : Cx} {pins : List (Addr × Obj)} {σ : St} {H : Hp} {s : Shared} {a : Addr} {y : V} {u : Value} {A : Around} {E : Value → Shared → Prop}
end
end L2
namespace Att
open PySem PySem.W PySem.Calls PyProof.Rows
theorem ints_of_wellAll {P : Params} {h : Heap} : ∀ (ns : List Int) (vs : List Value), WellAll P h vs (ns.map WData.int) → IntsAre vs ns := by
  intro ns
  induction ns with
  | nil =>
    intro vs w
    rw [List.map_nil] at w
    cases w
    exact .nil
  | cons n ns ih =>
    intro vs w
    rw [List.map_cons] at w
    cases w with
    | cons a b =>
      cases a
      exact .cons _ _ (ih _ b)
theorem script_of {l : OpenLaw} {n : Nat} (hn : l.most = some n) {P : Params} {h : Heap} {args : List WData} {vals : List Value}
    (hpre : l.row.toRowW.claim.pre args = true) (hwl : WellAll P h vals args) :
    ∃ a vs ns, vals = [Value.ref a] ∧ args = [WData.list (ns.map WData.int)] ∧ h.get? a = some { cls := .type "list", data := .seq vs.toArray } ∧ IntsAre vs ns ∧ ns.length ≤ n := by
  have hsh : WShape.hasAll [] args [.list .int] = true := (pre_splitW hpre).1
  have hc : l.pre.holds [] { args := args } = true := (pre_splitW hpre).2
  obtain ⟨d, r, rfl, h1, h2⟩ := hasAllW_cons hsh
  obtain rfl := hasAllW_nil h2
  obtain ⟨xs, rfl, h3⟩ := hasW_list h1
  obtain ⟨ns, rfl⟩ := items_int h3
  have hlen : ns.length ≤ n := by
    unfold OpenLaw.pre at hc
    have h4 : (WTm.not (.lt (.lit (.int (n : Int))) (.len (.arg 0)))).holds [] { args := [.list (ns.map .int)] } = true := by
      have h4 := (holds_andW hc).1
      rw [hn] at h4
      exact h4
    have h5 := condW_of h4 (w_not (w_lt w_lit (w_len_list (w_arg rfl))))
    rw [List.length_map] at h5
    refine Nat.le_of_not_lt fun q => ?_
    have q' : (n : Int) < ((ns.length : Nat) : Int) := by omega
    first
      | (rw [decide_eq_true q'] at h5; exact absurd h5 (by decide))
      | (simp at h5; omega)
  cases hwl with
  | cons w1 w2 =>
    cases w2
    cases w1 with
    | list ho hall => exact ⟨_, _, ns, rfl, rfl, ho, ints_of_wellAll ns _ hall, hlen⟩
theorem post_true (l : OpenLaw) (args : List WData) : l.row.toRowW.claim.post args (.bool true) args = true :=
  postW_of (r := l.row.toRowW) (X := (true == true))
    (show WShape.has [] (.bool true) .bool = true by first | rfl | decide | simp [WShape.has, WShape.arms, WShape.armsAll])
    (show (WTm.eq .res (.lit (.bool true))).value [] { args := args, res := some (.bool true), after := args } = some (.bool (true == true)) from w_eq_bool (w_res rfl) w_lit) rfl
theorem attach_call {l : OpenLaw} {n : Nat} {q : Program} {loose : List Str} {XP : (Str → Option Value) → Heap → Prop} {YP : World → Heap → Prop} {d : DefRec}
    (hn : l.most = some n) (hdf : d.params.defaults = [])
    (call : ∀ (w : World) (s₀ s₁ : Shared) (mg mb : Str → Option Value) (fa : Addr) (o : Obj) (pm cd doc : Value) (a : Addr) (vs : List Value) (ns : List Int),
      Ground q loose [] XP w s₀ mg mb s₁.heap → YP w s₁.heap →
      s₁.heap.get? fa = some o → o.data = .func (docDef d.name d.params d.body d.scope pm cd doc) → s₁.heap.CodeRec cd d.name → mg d.name = some (.ref fa) →
      s₁.heap.get? a = some { cls := .type "list", data := .seq vs.toArray } → IntsAre vs ns → ns.length ≤ n → s₁.gens = #[] →
      codeAny (model l.prog w) callerA (.call (.ref fa) ⟨[.ref a], []⟩) (fun r s' => r = .ok (.ret (.bool true)) ∧ OldK s₁.heap s'.heap ∧ s'.os = s₁.os ∧ AllBare s'.gens) s₁) :
    WalkO q loose XP YP l.row.toRowW d [] (fun f vs => PySem.call f vs) := by
  intro w s₀ s₁ mg mb G Y fa o pm cd doc dV kV ho hd hcd hD hmg hg args vals as hpre hlay hrd hwl hlo
  obtain rfl : dV = .none := Dflts.none hD hdf
  obtain rfl : kV = .none := Dflts.noKw hD
  obtain ⟨a, vs, ns, rfl, rfl, hobj, hints, hlen⟩ := script_of hn hpre hwl
  refine enter_call (codeAny_mono (call w s₀ s₁ mg mb fa o pm cd doc a vs ns G Y ho (fd_plain hd) hcd hmg hobj hints hlen hg) fun r s' hq => ?_)
  obtain ⟨rfl, h2, h3, h4⟩ := hq
  exact ⟨.inl ⟨.bool true, .bool true, [], rfl, fun _ => rfl, .bool true, post_true l _, fun _ => ⟨List.Pairwise.nil, fun _ hm => (nomatch hm)⟩⟩, h2, h3, h4⟩
section
variable {prog : Program} {w : World} {A : Around} {E : Value → Shared → Prop} {s : Shared} {K : Frag}
def noObjs (h : Heap) : Heap := { h with objs := #[] }
def ledger (h : Heap) (L d : Addr) : List (Addr × Obj) := (List.range h.objs.size).filterMap fun a => if a = L ∨ a = d then none else (h.get? a).map fun o => (a, o)
end
end Att
namespace L2
open PySem PySem.Spec PyProof.Rows
theorem vals_ints : ∀ {vs : List Value} {ns : List Int}, IntsAre vs ns → Vals (ns.map V.int) vs
  | _, _, .nil => .nil
  | _, _, .cons n t h => .cons ⟨t, rfl⟩ (vals_ints h)
def Only (H : Hp) : Prop := ∀ b, H b = none ∨ ∃ o xs, H b = some (.frz o (.lst xs))
theorem law_call {P : Program} {w : World} {K : PySem.W.Frag} {mg mb : Str → Option Value} {CX : CXT} {k : Nat} {fa a : Addr} {fd : FuncData} {x : Str} {sp : Sp} {s₁ : Shared} {vs : List Value} {ns : List Int}
    (KX : K.In s₁.heap) (hns : s₁.heap.Ns mainGlobals mg) (hb : s₁.heap.Ns builtinsNs mb) (hbb : ∀ x : Str, x ≠ "__name__" → mb x = bootBuiltins x) (hlim : s₁.heap.NoLimit) (hg : s₁.gens = #[])
    (ha : s₁.heap.get? a = some { cls := .type "list", data := .seq vs.toArray }) (hi : IntsAre vs ns) (hl : ns.length ≤ sizeLine) (hr : Room k callerA)
    (F : ∀ base : Heap, K.In base → base.Ns mainGlobals mg → FnOk P w K mg base CX k fa fd [x] sp) (hbind : ∀ (s : Shared) (u : Value), BindsTo s fd ⟨[u], []⟩ [(x, u)])
    (hsp : ∀ H : Hp, Only H → SqL K H a (ns.map V.int) → sp [.ref a] H (fun v _ => v = .bl true) fun _ _ _ => False)
    (hCX : ∀ H e s', CX [] H s₁ (fun _ _ _ => False) e s' → False) :
    codeAny (model P w) callerA (.call (.ref fa) ⟨[.ref a], []⟩) (fun r s' => r = .ok (.ret (.bool true)) ∧ OldK s₁.heap s'.heap ∧ s'.os = s₁.os ∧ AllBare s'.gens) s₁ := by
  have rv := vals_ints hi
  have lenV := hi.length
  -- from an abstract heap in which nothing but the script may be tracked
  have core : ∀ H : Hp, Only H → SqL K H a (ns.map V.int) → HOk P w H s₁.heap → (∀ b, H b ≠ none → b = a) → (H a ≠ none → K.lookup a = none) →
      codeAny (model P w) callerA (.call (.ref fa) ⟨[.ref a], []⟩) (fun r s' => r = .ok (.ret (.bool true)) ∧ OldK s₁.heap s'.heap ∧ s'.os = s₁.os ∧ AllBare s'.gens) s₁ := by
    intro H hO hS hok hA hK
    have base_of : ∀ {b : Addr} {o : Obj}, s₁.heap.get? b = some o → H b = none → (hidT s₁.heap H).get? b = some o := fun e n => hidT_get e n
    have noA : ∀ {b : Addr} {o : Obj} {es : Array DictEntry} {ep : Nat}, s₁.heap.get? b = some o → o.data = .dict es ep → H b = none := fun {b o es ep} e d => by
      cases q : H b with
      | none => rfl
      | some u =>
        have e' : b = a := hA b (by rw [q]; simp)
        subst e'
        rw [ha] at e; cases e
        have d' : Data.seq vs.toArray _ = Data.dict es ep := d
        cases d'
    have nsK : ∀ {b : Addr} {m : Str → Option Value}, s₁.heap.Ns b m → (hidT s₁.heap H).Ns b m := fun {b m} ⟨o, es, ep, e, d, r⟩ => ⟨o, es, ep, base_of e (noA e d), d, r⟩
    have hKb : K.In (hidT s₁.heap H) := fun b o e => base_of (KX b o e) (by
      cases q : H b with
      | none => rfl
      | some u =>
        have e' : b = a := hA b (by rw [q]; simp)
        subst e'
        rw [hK (by rw [q]; simp)] at e; cases e)
    have hM : Mod K mg (hidT s₁.heap H) := ⟨hKb, nsK hns, ⟨mb, nsK hb, hbb⟩, let ⟨mc, h1, h2⟩ := hlim; ⟨mc, nsK h1, h2⟩⟩
    have e0 : Env0 P w K mg (hidT s₁.heap H) callerA [] s₁ H := ⟨rfl, hM, fun b o e => of_hidT e, Nat.le_of_eq (hidT_size _ _), trivial, fun b hb => absurd (show b ∈ ([] : List Addr) from hb) (by simp), hok, .of_eq hg⟩
    refine codeAny_mono ((F _ hKb (nsK hns)).run callerA [] s₁ H ⟨[.ref a], []⟩ [.ref a] [.ref a] _ _ hr e0 (hbind s₁ (.ref a)) (.cons rfl .nil) (hsp H hO hS)) fun r s' h => ?_
    cases r with
    | error e => exact (hCX H e s' h).elim
    | ok fl =>
      cases fl with
      | next => exact False.elim h
      | brk => exact False.elim h
      | cont => exact False.elim h
      | ret u =>
        obtain ⟨v, H', os, bare, un, hok', r', q⟩ := h
        have q' : v = .bl true := q
        subst q'
        obtain rfl : u = Value.bool true := r'
        refine ⟨rfl, OldK.of_keep fun b o e => ?_, os, bare⟩
        cases q : H b with
        | none => exact un.keep b o e q (by intro z; exact absurd (show b ∈ ([] : List Addr) from z) (by simp)) (by simp)
        | some u =>
          rcases hO b with z | ⟨ob, xs, z⟩
          · rw [q] at z; cases z
          · have z2 := un.frzs b ob _ z
            obtain ⟨e1, _⟩ := hok b _ z
            obtain ⟨e2, _⟩ := hok' b _ z2
            rw [e] at e1; cases e1
            exact e2
  cases hk : K.lookup a with
  | some o =>
    -- the script is one of the module's own objects
    have e := KX a o hk
    rw [ha] at e
    cases e
    refine core (fun _ => none) (fun _ => .inl rfl) (.inr ⟨_, vs.toArray, _, hk, rfl, rfl, rfl, by rw [List.size_toArray, lenV]; exact hl, by simpa using rv⟩) (fun b u z => by have z' : (none : Option HO) = some u := z; cases z') (fun b z => absurd rfl z) fun z => absurd rfl z
  | none =>
    refine core (fun b => if b = a then some (.frz { cls := .type "list", data := .seq vs.toArray } (.lst (ns.map V.int))) else none) (fun b => ?_) (.inl (.inr ⟨{ cls := .type "list", data := .seq vs.toArray }, if_pos rfl⟩)) (fun b u z => ?_) (fun b z => ?_) fun _ => hk
    · by_cases hb : b = a
      · exact .inr ⟨_, _, if_pos hb⟩
      · exact .inl (if_neg hb)
    · by_cases hb : b = a
      · have z' := (if_pos hb).symm.trans z
        cases z'
        subst hb
        exact ⟨ha, by rw [List.length_map]; exact hl, vs, _, rv, ha⟩
      · have z' := (if_neg hb).symm.trans z
        cases z'
    · by_cases hb : b = a
      · exact hb
      · exact absurd (if_neg hb) z
end L2
namespace L2
open PySem PySem.Spec PyProof.Rows
abbrev KOf {K : PySem.W.Frag} {h : Heap} (_ : K.In h) : PySem.W.Frag := K
theorem walk_of {l : PySem.W.OpenLaw} {n k : Nat} {q : Program} {loose : List Str} {XP : (Str → Option Value) → Heap → Prop} {YP : World → Heap → Prop} {d : DefRec} {K : Params → PySem.W.Frag} {CX : World → CXT} {sp : World → Sp} {x : Str}
    (hn : l.most = some n) (hn2 : n ≤ sizeLine) (hdf : d.params.defaults = []) (hr : Room k callerA)
    (hY : ∀ (w : World) (h : Heap), YP w h → (K w.params).In h)
    (F : ∀ (w : World) (mg : Str → Option Value) (fa : Addr) (h : Heap), (K w.params).In h → h.Ns mainGlobals mg → mg d.name = some (.ref fa) →
      ∃ fd : FuncData, (∀ (s : Shared) (u : Value), BindsTo s fd ⟨[u], []⟩ [(x, u)]) ∧
        ∀ base : Heap, (K w.params).In base → base.Ns mainGlobals mg → FnOk l.prog w (K w.params) mg base (CX w) k fa fd [x] (sp w))
    (hsp : ∀ (w : World) (H : Hp) (a : Addr) (ns : List Int), ns.length ≤ n → Only H → SqL (K w.params) H a (ns.map V.int) → sp w [.ref a] H (fun v _ => v = .bl true) fun _ _ _ => False)
    (hCX : ∀ (w : World) (H : Hp) (s : Shared) (e : Value) (s' : Shared), CX w [] H s (fun _ _ _ => False) e s' → False) :
    PySem.W.WalkO q loose XP YP l.row.toRowW d [] (fun f vs => PySem.call f vs) := by
  refine Att.attach_call hn hdf fun w s₀ s₁ mg mb fa o pm cd doc a vs ns G Y ho hd hcd hmg hobj hints hlen hg => ?_
  have KX := hY w _ Y
  obtain ⟨fd, hb, hF⟩ := F w mg fa _ KX G.T.g hmg
  exact law_call KX G.T.g G.T.b G.T.builtins G.T.nolimit hg hobj hints (Nat.le_trans hlen hn2) hr hF hb (fun H hO hS => hsp w H a ns hlen hO hS) fun H e s' => hCX w H s₁ e s'
end L2
namespace L2
open PySem PySem.Spec PyProof.Rows
def inClass (s : Stmt) (j : Nat) : Stmt := match s with
  | .ClassDef _ _ _ body _ _ _ _ _ _ _ => body.getD j (.Pass ⟨0, 0, 0, 0⟩)
  | _ => .Pass ⟨0, 0, 0, 0⟩
def defArgs (s : Stmt) : Arguments := match s with
  | .FunctionDef _ a _ _ _ _ _ _ _ _ => a
  | _ => { posonlyargs := [], args := [], vararg := none, kwonlyargs := [], kw_defaults := [], kwarg := none, defaults := [] }
def defBody (s : Stmt) : List Stmt := match s with
  | .FunctionDef _ _ b _ _ _ _ _ _ _ => b
  | _ => []
def defScope (s : Stmt) : Scope := match s with
  | .FunctionDef _ _ _ _ _ _ sc _ _ _ => sc
  | _ => { kind := .function, names := [], isGenerator := false, isCoroutine := false }
abbrev CX0 : CXT := fun _ _ _ _ _ _ => False
abbrev E0 : XK := fun _ _ _ => False
theorem pass0 {X : Cx} : Passes CX0 X E0 := fun _ _ _ _ _ _ _ h => h.elim
structure Fun (K : PySem.W.Frag) (x qual : Str) (st : Stmt) (f : Addr) (fd : FuncData) : Prop where
  ex : ∃ (oc : Value) (od : Option Addr) (kV doc pm : Value) (an : Option Addr) (cdv ct : Value) (osl : Array (Option Value)),
    fd = PySem.W.fnOf x qual (defArgs st) (defBody st) (defScope st) .none kV doc pm an cdv ct ∧ K.lookup f = some ⟨oc, od, .func fd, osl⟩ ∧ PySem.W.codeIn K cdv qual = true
  kp : PySem.W.keepIn K (.ref f) = true
section
variable {P : Program} {w : World} {K : PySem.W.Frag} {mg : Str → Option Value} {base : Heap}
theorem Fun.ok {x qual : Str} {st : Stmt} {f : Addr} {fd : FuncData} {N ps : List Str} {k : Nat} {sp : Sp} (F : Fun K x qual st f fd) (S : FnScope N ps (defScope st)) (len : ∀ vs H Q E, sp vs H Q E → vs.length = ps.length)
    (hbody : ∀ (cdv : Value) (A : Around) (outer : List Env) (s : Shared) (H : Hp) (vs : List V) (Q : VK) (E : XK), Room k (A.deeper (envOfC qual (defScope st) s.heap.objs.size f cdv)) → sp vs H Q E →
      ∃ t, PSs (cxOf CX0 P w K mg base N qual (defScope st) f cdv A outer s H E).nox (defBody st) t ∧ t { nx := fun _ H' => Q .non H', rt := Q } (start N vs) H) : FnOk P w K mg base CX0 (k + 1) f fd ps sp := by
  obtain ⟨oc, od, kV, doc, pm, an, cdv, ct, osl, rfl, lk, hcd⟩ := F.ex
  refine fn_of lk hcd S len fun A outer s H vs Q E hr hsp => ?_
  obtain ⟨t, h, q⟩ := hbody cdv A outer s H vs Q E hr hsp
  exact ⟨t, h.nox, q⟩
theorem Fun.binds {x qual : Str} {st : Stmt} {f : Addr} {fd : FuncData} {ps : List Str} (F : Fun K x qual st f fd)
    (h : ∀ (kV doc pm : Value) (an : Option Addr) (cdv ct : Value) (us : List Value), us.length = ps.length → bindArgs (PySem.W.fnOf x qual (defArgs st) (defBody st) (defScope st) .none kV doc pm an cdv ct) ⟨us, []⟩ = pure (ps.zip us)) : Binds K fd ps [] := by
  obtain ⟨oc, od, kV, doc, pm, an, cdv, ct, osl, rfl, lk, hcd⟩ := F.ex
  exact .all (h kV doc pm an cdv ct)
theorem fun_mk {x qual : Str} {st : Stmt} {f : Addr} {oc : Value} {od an : Option Addr} {osl : Array (Option Value)} {kV doc pm cdv ct : Value} (l : K.lookup f = some ⟨oc, od, .func (PySem.W.fnOf x qual (defArgs st) (defBody st) (defScope st) .none kV doc pm an cdv ct), osl⟩)
    (c : PySem.W.codeIn K cdv qual = true) (k : PySem.W.keepIn K (.ref f) = true) : Fun K x qual st f (PySem.W.fnOf x qual (defArgs st) (defBody st) (defScope st) .none kV doc pm an cdv ct) := ⟨⟨oc, od, kV, doc, pm, an, cdv, ct, osl, rfl, l, c⟩, k⟩
end
theorem small1000 {n : Nat} (h : n ≤ 1000) : n < sizeLine := Nat.lt_of_le_of_lt h (by decide)
section
variable {X : Cx}
end
def Same (H H' : Hp) : Prop := ∀ b o, H b = some o → H' b = some o
theorem Same.refl (H : Hp) : Same H H := fun _ _ h => h
theorem Same.trans {H H1 H2 : Hp} (a : Same H H1) (b : Same H1 H2) : Same H H2 := fun c o h => b c o (a c o h)
theorem Same.free {H H' : Hp} (e : Same H H') {l : Addr} (h : H' l = Option.none) : H l = Option.none := by
  cases q : H l with
  | none => rfl
  | some o =>
    rw [e l o q] at h
    cases h
theorem Same.seq {K : PySem.W.Frag} {H H' : Hp} {a : Addr} {xs : List V} (e : Same H H') (h : SqL K H a xs) : SqL K H' a xs := by
  rcases h with (h | ⟨o, h⟩) | h
  · exact .inl (.inl (e _ _ h))
  · exact .inl (.inr ⟨o, e _ _ h⟩)
  · exact .inr h
section
variable {X : Cx}
end
section
variable {κ : Type} [DecidableEq κ]
end
end L2
namespace L2
open PySem PySem.Spec PyProof.Rows
def clOf (env : Env) : List (Str × NameKind) → List (Str × Addr) → List (Str × Addr)
  | [], cs => cs
  | (n, k) :: r, cs => clOf env r (if k == .free then (match env.cells.lookup n with | some c => (n, c) :: cs | none => cs) else cs)
theorem clOf_sub {env : Env} : ∀ {l : List (Str × NameKind)} {cs : List (Str × Addr)}, (∀ n c, (n, c) ∈ cs → env.cells.lookup n = some c) → ∀ n c, (n, c) ∈ clOf env l cs → env.cells.lookup n = some c
  | [], cs, h, n, c, m => h n c m
  | (n', k) :: r, cs, h, n, c, m => by
    unfold clOf at m
    refine clOf_sub (l := r) (fun a b q => ?_) n c m
    split at q
    · split at q
      · rename_i c' hc
        rcases List.mem_cons.mp q with z | z
        · cases z; exact hc
        · exact h a b z
      · exact h a b q
    · exact h a b q
theorem clOf_keep {env : Env} : ∀ {l : List (Str × NameKind)} {cs : List (Str × Addr)} {p}, p ∈ cs → p ∈ clOf env l cs
  | [], _, _, h => h
  | (n, k) :: r, cs, p, h => by
    unfold clOf
    refine clOf_keep (l := r) ?_
    split
    · split
      · exact List.mem_cons_of_mem _ h
      · exact h
    · exact h
theorem clOf_has {env : Env} : ∀ {l : List (Str × NameKind)} {cs : List (Str × Addr)} {n : Str} {c : Addr}, (n, NameKind.free) ∈ l → env.cells.lookup n = some c → (n, c) ∈ clOf env l cs
  | [], _, _, _, h, _ => by cases h
  | (n', k) :: r, cs, n, c, h, e => by
    unfold clOf
    rcases List.mem_cons.mp h with z | z
    · cases z
      refine clOf_keep ?_
      simp [e]
    · exact clOf_has z e
theorem closureFor_cl {scope : Scope} {env : Env} (h : ∀ n, (n, NameKind.free) ∈ scope.names → ∃ c, env.cells.lookup n = some c) : closureFor scope env = pure (clOf env scope.names []) := by
  have all : ∀ (l : List (Str × NameKind)) (cs : List (Str × Addr)), (∀ n, (n, NameKind.free) ∈ l → ∃ c, env.cells.lookup n = some c) →
      (forIn l cs (fun (x : Str × NameKind) (r : List (Str × Addr)) => (match x with | (name, kind) => if (kind == NameKind.free) = true then (do let a ← cellOf env name; pure (ForInStep.yield ((name, a) :: r))) else pure (ForInStep.yield r) : Sem (ForInStep (List (Str × Addr)))))) = (pure (clOf env l cs) : Sem (List (Str × Addr))) := by
    intro l
    induction l with
    | nil => intro cs _; rfl
    | cons p r ih =>
      intro cs hl
      obtain ⟨n, k⟩ := p
      have hr : ∀ n, (n, NameKind.free) ∈ r → ∃ c, env.cells.lookup n = some c := fun n m => hl n (List.mem_cons_of_mem _ m)
      rw [List.forIn_cons]
      unfold clOf
      by_cases hk : k = .free
      · subst hk
        obtain ⟨c, hc⟩ := hl n List.mem_cons_self
        have e : cellOf env n = pure c := by unfold cellOf; rw [hc]
        simp only [beq_self_eq_true, if_true, e, hc]
        exact ih _ hr
      · have hb : (k == NameKind.free) = false := by simpa using hk
        simp only [hb, Bool.false_eq_true, if_false]; exact ih _ hr
  unfold closureFor
  exact (congrArg (fun (z : Sem (List (Str × Addr))) => z >>= fun r => pure r) (all scope.names [] h)).trans rfl
def cxLc (X : Cx) (own caps : List Str) (scope : Scope) (C : Addr) (fp : List Addr) (s : Shared) (H : Hp) : Cx where
  prog := X.prog
  w := X.w
  K := X.K
  mg := X.mg
  base := X.base
  A := X.A
  N := own ++ caps
  s₀ := s
  H₀ := H
  env := compEnvC scope (clOf X.env scope.names []) C X.env
  outer := X.stack
  stack := X.stack
  ex := fp
  fn := fun _ => false
  calm := X.calm
  pn := []
  xe := fun _ _ => False
def CapOk (X : Cx) (scope : Scope) (y : Str) (j : Nat) : Prop := X.N[j]? = some y ∧ Vis X.env.scope y ∧ (X.env.kindOf y == some .local) = false ∧ ((relabel scope X.env).names.lookup y == some .cell || (relabel scope X.env).names.lookup y == some .free) = true
def Caps (X : Cx) (scope : Scope) : List Str → List Nat → Prop
  | [], [] => True
  | y :: ys, j :: js => CapOk X scope y j ∧ Caps X scope ys js
  | _, _ => False
def capV (σ : St) (js : List Nat) : St := js.map fun j => (σ[j]?).join
theorem Caps.at {X : Cx} {scope : Scope} {σ : St} : ∀ {ys : List Str} {js : List Nat} {i : Nat} {y : Str} {v : V}, Caps X scope ys js → ys[i]? = some y → (capV σ js)[i]? = some (some v) → ∃ j, CapOk X scope y j ∧ σ[j]? = some (some v)
  | [], [], i, y, v, _, h, _ => by simp at h
  | a :: ys, j :: js, 0, y, v, c, h, e => by
    simp at h; subst h
    refine ⟨j, c.1, ?_⟩
    simp [capV] at e
    cases q : σ[j]? with
    | none =>
      rw [q] at e
      cases e
    | some o =>
      rw [q] at e
      simp at e
      rw [e]
  | a :: ys, j :: js, i + 1, y, v, c, h, e => Caps.at (i := i) c.2 (by simpa using h) (by simpa [capV] using e)
  | [], _ :: _, _, _, _, c, _, _ => c.elim
  | _ :: _, [], _, _, _, c, _, _ => c.elim
theorem Caps.len {X : Cx} {scope : Scope} {σ : St} : ∀ {ys : List Str} {js : List Nat}, Caps X scope ys js → (capV σ js).length = ys.length
  | [], [], _ => rfl
  | a :: ys, j :: js, c => by simp only [capV, List.map_cons, List.length_cons]; exact congrArg (· + 1) (Caps.len (σ := σ) c.2)
  | [], _ :: _, c => c.elim
  | _ :: _, [], c => c.elim
theorem relabel_free {env : Env} : ∀ {names : List (Str × NameKind)} {x : Str}, (∀ p ∈ names, p.2 ≠ .cell) →
    ((names.map fun (n, k) => if (k == NameKind.free && env.scope.kind == .function && env.kindOf n == some .cell) then (n, NameKind.cell) else (n, k)).lookup x = some .cell ∨
     (names.map fun (n, k) => if (k == NameKind.free && env.scope.kind == .function && env.kindOf n == some .cell) then (n, NameKind.cell) else (n, k)).lookup x = some .free) → (x, NameKind.free) ∈ names
  | [], _, _, h => by simp at h
  | (n, k) :: r, x, hc, h => by
    have hr : ∀ p ∈ r, p.2 ≠ .cell := fun p hp => hc p (List.mem_cons_of_mem _ hp)
    have hk : k ≠ .cell := hc (n, k) List.mem_cons_self
    have step : ∀ (b : Bool), (List.lookup x ((if b = true then (n, NameKind.cell) else (n, k)) :: r.map fun (n, k) => if (k == NameKind.free && env.scope.kind == .function && env.kindOf n == some .cell) then (n, NameKind.cell) else (n, k)) = some .cell ∨
       List.lookup x ((if b = true then (n, NameKind.cell) else (n, k)) :: r.map fun (n, k) => if (k == NameKind.free && env.scope.kind == .function && env.kindOf n == some .cell) then (n, NameKind.cell) else (n, k)) = some .free) → (b = true → k = .free) → (x, NameKind.free) ∈ (n, k) :: r := by
      intro b q hb
      cases hx : x == n with
      | true =>
        have e : x = n := by simpa using hx
        subst e
        cases b with
        | true => rw [hb rfl]; exact List.mem_cons_self
        | false =>
          simp [List.lookup_cons] at q
          rcases q with q | q
          · exact absurd q hk
          · rw [q]; exact List.mem_cons_self
      | false =>
        refine List.mem_cons_of_mem _ (relabel_free (env := env) hr ?_)
        cases b <;> simpa [List.lookup_cons, hx] using q
    exact step _ h fun q => by simp at q; exact q.1.1
def PIfs (X : Cx) (ifs : List Expr) (t : TT) : Prop :=
  ∀ (pins : List (Addr × Obj)) (s : Shared) (σ : St) (H : Hp) (Q : Bool → Hp → Prop), Inv X pins σ H s → t σ H Q →
    wpAny (model X.prog X.w) X.A (forIn ifs true fun c r => if r = true then do let ok ← isTrue c X.env (eval c X.env); pure (ForInStep.yield ok) else pure (ForInStep.yield r)) (TP X pins σ Q) X.xe s
def tYes : TT := fun _ H Q => Q true H
theorem pifs_nil {X : Cx} : PIfs X [] tYes := fun _ _ _ H _ I h => wpAny_tests_nil ⟨H, I, h⟩
theorem pifs_one {X : Cx} {c : Expr} {t : TT} (h : PT X c t) : PIfs X [c] t := fun pins s σ H Q I q => wpAny_tests_one (h pins s σ H Q I q)
abbrev Wn (P : Program) (w : World) (A : Around) {α : Type} (m : Sem α) (Q : α → Shared → Prop) (s : Shared) : Prop := wpAny (model P w) A m Q (fun _ _ => False) s
abbrev ifsRun (env : Env) (l : List Expr) : Sem Bool := forIn l true fun c r => if r = true then do let b ← isTrue c env (eval c env); pure (ForInStep.yield b) else pure (ForInStep.yield r)
def LcTurn (P : Program) (w : World) (A : Around) (it acc : Value) (tg elt : Expr) (l : List Expr) (env : Env) (fin : Shared → Prop) (again : Shared → Prop) (s : Shared) : Prop :=
  Wn P w A (pyNext it) (fun r a => match r with
    | none => fin a
    | some v => Wn P w A (letOwnedTupleGo tg it v) (fun _ b => Wn P w A (assign tg env v) (fun _ c => Wn P w A (ifsRun env l) (fun ok d =>
        if ok = true then Wn P w A (eval elt env) (fun x e => Wn P w A (call (.builtin "list.append") [acc, x]) (fun _ g => again g) e) d else again d) c) b) a) s
theorem lc_loop {P : Program} {w : World} {A : Around} {R : Result → Shared → Prop} {s : Shared} {elt tg iter : Expr} {l : List Expr} {sc : Scope} {pos : Pos} {it acc : Value} {env : Env} (J : Nat → Shared → Prop)
    (turn : ∀ n s, J n s → LcTurn P w A it acc tg elt l env (R (.ok .next)) (fun z => ∃ m, m < n ∧ J m z) s) (n : Nat) (h : J n s) : codeAny (model P w) A (.compLoop (.ListComp elt [⟨tg, iter, l, 0⟩] sc pos) 0 it acc env) R s := by
  refine codeAny_loop rfl J (fun k z hz => ?_) n h
  have one := turn k z hz
  show wpAny _ A (Sem.onRaise (compTurn (.ListComp elt [⟨tg, iter, l, 0⟩] sc pos) 0 it acc env) fun x => do noteFrame x env; theTreesLotGoes x) _ _ z
  refine wpAny_noted ?_
  rw [compTurn_list]
  refine wpAny_bind (wpAny_standAt (wpAny_bind (wpAny_mono one (fun r a ha => ?_) fun _ _ f => f.elim)))
  cases r with
  | none => exact wpAny_pure ha
  | some v =>
    refine wpAny_bind (wpAny_mono ha (fun _ b hb => wpAny_bind (wpAny_mono hb (fun _ c hc => wpAny_bind (wpAny_mono hc (fun ok d hd => ?_) fun _ _ f => f.elim)) fun _ _ f => f.elim)) fun _ _ f => f.elim)
    cases ok with
    | false =>
      have q : ∃ m, m < k ∧ J m d := hd
      exact wpAny_pure ⟨rfl, q⟩
    | true =>
      have q : Wn P w A (eval elt env) (fun x e => Wn P w A (call (.builtin "list.append") [acc, x]) (fun _ g => ∃ m, m < k ∧ J m g) e) d := hd
      exact wpAny_bind (wpAny_bind (wpAny_mono q (fun x e he => wpAny_bind (wpAny_mono he (fun _ g hg => wpAny_pure (wpAny_pure ⟨rfl, hg⟩)) fun _ _ f => f.elim)) fun _ _ f => f.elim))
def tLcB (g : TG) (tt : TT) (te : TE) (k : Nat) (cap : St) (J : It) (H1 : Hp) (Q : VK) : Prop :=
  ∀ D, H1 D = none → ∃ W : Nat → Nat → List V → Hp → Prop, (∃ m, W 0 m [] (upd H1 D (.lst []))) ∧ ∀ i m ys H, H D = some (.lst ys) → W i m ys H →
    (J.stop i H ∧ Q (.ref D) H) ∨ (J.go i H ∧ ∀ x H', J.yld i H x H' → ∀ vs : St, vs.length = k → g x (vs ++ cap) H' fun σ2 H2 => (∃ vs' : St, vs'.length = k ∧ σ2 = vs' ++ cap) ∧ tt σ2 H2 fun b H3 =>
      if b = true then te σ2 H3 fun v H4 => H4 D = some (.lst ys) ∧ ys.length < sizeLine ∧ ∃ m', m' < m ∧ W (i + 1) m' (ys ++ [v]) (upd H4 D (.lst (ys ++ [v]))) else H3 D = some (.lst ys) ∧ ∃ m', m' < m ∧ W (i + 1) m' ys H3)
def tLc (js : List Nat) (k : Nat) (wi : TI) (g : TG) (tt : TT) (te : TE) : TE := fun σ H Q => wi σ H fun J H1 => tLcB g tt te k (capV σ js) J H1 Q
section
variable {X : Cx} {own caps : List Str} {js : List Nat} {scope : Scope} {tg iter elt : Expr} {ifs : List Expr} {wi : TI} {g : TG} {tt : TT} {te : TE} {pos : Pos}
theorem lc_run {pins : List (Addr × Obj)} {σ : St} {H2 : Hp} {s2 : Shared} {it : Addr} {fp : List Addr} {tn : Nat → Heap → Prop} {J : It} {Q : VK} {post : Value → Addr → Result → Shared → Prop} {E : Value → Shared → Prop}
    (hcalm : X.calm = true) (hkind : scope.kind = .function) (hcell : (scope.names.any fun p => p.2 == .cell) = false) (hk : (scope.names.all fun p => !(p.2 == .free) || (X.env.kindOf p.1 == some .cell || X.env.kindOf p.1 == some .free)) = true)
    (hcap : Caps X scope caps js) (hg : ∀ C fp s H, PG (cxLc X own caps scope C fp s H) tg g) (hi : ∀ C fp s H, PIfs (cxLc X own caps scope C fp s H) ifs tt) (he : ∀ C fp s H, PE (cxLc X own caps scope C fp s H) elt te)
    (I2 : Inv X pins σ H2 s2) (T : Turn X.prog X.w X.K tg J fp it tn) (st2 : tn 0 s2.heap) (f2 : ∀ b ∈ fp, FpOk X pins H2 b) (hw : tLcB g tt te own.length (capV σ js) J H2 Q)
    (hpost : ∀ D C s' m H', s'.heap.Ns C m → s2.heap.objs.size ≤ C → FpOk X pins H' C → Inv X pins σ H' s' → Q (.ref D) H' → post (.ref D) C (.ok .next) s') :
    wpAny (model X.prog X.w) X.A (newList []) (fun acc s₃ => wpAny (model X.prog X.w) X.A (newFunctionEnv scope X.env.globals (clOf X.env scope.names []) [] X.env.qual none .none (some X.env)) (fun cenv s₄ =>
      codeAny (model X.prog X.w) X.A (.compStart (.ListComp elt [⟨tg, iter, ifs, 0⟩] scope pos) 0 (.ref it) acc { cenv with scope := relabel scope X.env }) (post acc cenv.locals) s₄) E s₃) E s2 := by
  have hcell' : ∀ y ∈ scope.names, y.2 ≠ .cell := fun y hy e => by
    have := (List.any_eq_false.mp hcell) y hy
    simp [e] at this
  have hfr : ∀ n, (n, NameKind.free) ∈ scope.names → X.env.kindOf n = some .cell ∨ X.env.kindOf n = some .free := fun n hn => by
    have := (List.all_eq_true.mp hk) _ hn
    simpa using this
  refine wpAny_newObj_type (wpAny_newFunctionEnv hcell' (by intro y hy; simp at hy) (fun h₁ hns₁ hsb₁ => ?_) hkind)
  dsimp only at hns₁ hsb₁ ⊢
  generalize hHp : s2.heap.push { cls := .type "list", dict := none, data := .seq ([] : List Value).toArray } = G2 at hns₁ hsb₁ ⊢
  have hC : G2.objs.size = s2.heap.objs.size + 1 := by rw [← hHp, Heap.size_push]
  obtain ⟨D, hDe⟩ : ∃ D : Nat, s2.heap.objs.size = D := ⟨_, rfl⟩
  obtain ⟨C, hCe⟩ : ∃ C : Nat, G2.objs.size = C := ⟨_, rfl⟩
  rw [hCe] at hns₁ hsb₁
  rw [hDe, hCe] at hC
  show codeAny _ _ (.compStart _ 0 (.ref it) (.ref s2.heap.objs.size) (compEnvC scope (clOf X.env scope.names []) G2.objs.size X.env)) (post (.ref s2.heap.objs.size) G2.objs.size) _
  rw [hDe, hCe]
  have hDC : D ≠ C := by omega
  have hDCl : D < C := by omega
  have old : ∀ b o, s2.heap.get? b = some o → h₁.get? b = some o := fun b o e => by
    have hlt : b < D := hDe ▸ Heap.lt_size e
    exact hsb₁.extBut b o (Nat.ne_of_lt (Nat.lt_trans hlt hDCl)) (Heap.get?_push_of_some _ (hHp ▸ Heap.get?_push_of_some _ e))
  have hD2 : H2 D = none := I2.hok.fresh (Nat.le_of_eq hDe)
  have hC2 : H2 C = none := I2.hok.fresh (by rw [hDe]; omega)
  have accD : h₁.get? D = some { cls := .type "list", data := .seq ([] : List Value).toArray } := hsb₁.extBut _ _ hDC (Heap.get?_push_of_some _ (hHp ▸ hDe ▸ Heap.get?_push_size _ rfl))
  obtain ⟨W, ⟨m0, w0⟩, turn⟩ := hw D hD2
  -- the block's own state
  have fpn : ∀ b ∈ fp, H2 b = none := fun b hb => (f2 b hb).1
  have fplt : ∀ b ∈ fp, b < D := fun b hb => by obtain ⟨o, e, _⟩ := T.obj _ _ st2 b hb; exact hDe ▸ Heap.lt_size e
  have clsub : ∀ n c, (n, c) ∈ clOf X.env scope.names [] → X.env.cells.lookup n = some c := clOf_sub (by intro _ _ z; cases z)
  have cllook : ∀ n c, (clOf X.env scope.names []).lookup n = some c → X.env.cells.lookup n = some c := fun n c e => clsub n c (PySem.mem_of_lookup e)
  have clhas : ∀ n, (n, NameKind.free) ∈ scope.names → ∃ c, (clOf X.env scope.names []).lookup n = some c ∧ X.env.cells.lookup n = some c := fun n hn => by
    obtain ⟨c, e⟩ := I2.ok.has n (hfr n hn)
    have m := clOf_has (cs := []) hn e
    cases q : (clOf X.env scope.names []).lookup n with
    | none =>
      have := List.lookup_eq_none_iff.mp q _ m
      simp at this
    | some c' => exact ⟨c', rfl, cllook n c' q⟩
  have clt : ∀ x c, (clOf X.env scope.names []).lookup x = some c → c < D := fun x c e => by
    obtain ⟨v, z⟩ := I2.cell x c (cllook x c e)
    exact hDe ▸ z.lt
  have ok' : (cxLc X own caps scope C fp s2 H2).Ok := by
    refine ⟨I2.ok.mod, hkind, I2.ok.glob, I2.ok.blt, ?_, fun x y c e1 e2 => I2.ok.inj x y c (cllook x c e1) (cllook y c e2), fun x hx => ?_, fun x c z => (by cases z), I2.ok.hd, I2.ok.frames, .inl rfl, fun b hb => ⟨?_, fun x c e => ?_⟩, I2.bs, Nat.le_trans I2.ok.bsz I2.sz, fun b o e hb => ?_, fun b hb hs => ?_, I2.stack, I2.stkFree⟩
    · show s2.heap.objs.size ≤ C
      rw [hDe]; omega
    · have hx' : (relabel scope X.env).names.lookup x = some .cell ∨ (relabel scope X.env).names.lookup x = some .free := hx
      obtain ⟨c, e, _⟩ := clhas x (relabel_free hcell' hx')
      exact ⟨c, e⟩
    · exact Nat.ne_of_lt (Nat.lt_trans (fplt b hb) hDCl)
    · exact (f2 b hb).2.2.2.2.1 x c (cllook x c e)
    · rcases (f2 b hb).2.2.2.1 with z | z
      · exact I2.ok.noex b o e z
      · exact absurd (Nat.lt_of_lt_of_le (Heap.lt_size (I2.ok.bs b o e).1) z) (Nat.lt_irrefl _)
    · rcases List.mem_cons.mp (I2.stkSub b hs) with z | z
      · exact (f2 b hb).2.1 z
      · exact (f2 b hb).2.2.1 z
  have I4 : Inv (cxLc X own caps scope C fp s2 H2) [] (List.replicate own.length none ++ capV σ js) (upd H2 D (.lst [])) { s2 with heap := h₁, toks := s2.toks + ([] : List (Str × Value)).length } := by
    refine ⟨ok', rfl, I2.bare, Un.laid old (Nat.le_of_eq hDe) hD2, ⟨_, hns₁, fun i x v e1 e2 e3 => ?_⟩, fun x c e => ?_, ?_, fun x c e => ?_, fun p hp => absurd (show p ∈ ([] : List (Addr × Obj)) from hp) (by simp), ?_, ?_⟩
    · have e1 : (own ++ caps)[i]? = some x := e1
      by_cases hio : i < own.length
      · rw [List.getElem?_append_left (by simpa using hio), List.getElem?_replicate] at e2
        split at e2 <;> cases e2
      · have hle : own.length ≤ i := Nat.le_of_not_lt hio
        rw [List.getElem?_append_right hle] at e1
        rw [List.getElem?_append_right (by simpa using hle)] at e2
        obtain ⟨j, c, e⟩ := Caps.at (σ := σ) hcap e1 (by simpa using e2)
        obtain ⟨c1, c2, c3, c4⟩ := c
        obtain ⟨m, hn, hl⟩ := I2.loc
        obtain ⟨u, r, lk⟩ := hl j x v c1 e c2
        refine ⟨u, r, .inr ⟨?_, ?_⟩⟩
        · have c4' : (relabel scope X.env).names.lookup x = some .cell ∨ (relabel scope X.env).names.lookup x = some .free := by simpa using c4
          exact c4'
        · have c4' : (relabel scope X.env).names.lookup x = some .cell ∨ (relabel scope X.env).names.lookup x = some .free := by simpa using c4
          obtain ⟨c', q1, q2⟩ := clhas x (relabel_free hcell' c4')
          rcases lk with ⟨k1, _⟩ | ⟨_, c'', k2, k3⟩
          · rw [k1] at c3; simp at c3
          · rw [q2] at k2; cases k2
            obtain ⟨oc, hoc, hod⟩ := k3
            exact ⟨c', q1, oc, old _ _ hoc, hod⟩
    · obtain ⟨v, oc, hoc, hod⟩ := I2.cell x c (cllook x c e)
      exact ⟨v, oc, old _ _ hoc, hod⟩
    · show upd H2 D (.lst []) C = none
      rw [upd_ne (Ne.symm hDC)]; exact hC2
    · rw [upd_ne (Nat.ne_of_lt (clt x c e))]; exact I2.freeC x c (cllook x c e)
    · exact I2.hok.laid old (Nat.le_of_eq hDe) ⟨Nat.zero_le _, [], 0, .nil, accD⟩
    · show (List.replicate own.length none ++ capV σ js).length = (own ++ caps).length
      rw [List.length_append, List.length_append, List.length_replicate, hcap.len]
  have stat : ∀ {H' : Hp}, (∀ b ∈ fp, H' b = none) → ∀ b ∈ fp, FpOk (cxLc X own caps scope C fp s2 H2) [] H' b := fun hn b hb =>
    ⟨hn b hb, (ok'.exf b hb).1, ok'.exfs b hb, .inl hb, (ok'.exf b hb).2, fun p hp => absurd (show p ∈ ([] : List (Addr × Obj)) from hp) (by simp)⟩
  have loop : ∀ s₃ : Shared, s₃ = { s2 with heap := h₁, toks := s2.toks + ([] : List (Str × Value)).length } →
      codeAny (model X.prog X.w) X.A (.compLoop (.ListComp elt [⟨tg, iter, ifs, 0⟩] scope pos) 0 (.ref it) (.ref D) (compEnvC scope (clOf X.env scope.names []) C X.env)) (post (.ref D) C) s₃ := by
    rintro s₃ rfl
    refine lc_loop (fun n s' => ∃ i vs ys H', vs.length = own.length ∧ Inv (cxLc X own caps scope C fp s2 H2) [] (vs ++ capV σ js) H' s' ∧ tn i s'.heap ∧ (∀ b ∈ fp, H' b = none) ∧ H' D = some (.lst ys) ∧ W i n ys H') ?_ m0
      ⟨0, List.replicate own.length none, [], upd H2 D (.lst []), by simp, I4, T.keep _ _ _ st2 fun b _ o e => old b o e, fun b hb => by rw [upd_ne (Nat.ne_of_lt (fplt b hb))]; exact fpn b hb, upd_same, w0⟩
    rintro n s3 ⟨i, vs, ys, H3, hvs, I3, st3, fr3, hD3, w3⟩
    rcases turn i n ys H3 hD3 w3 with ⟨stop, qn⟩ | ⟨go, step⟩
    · refine thn (T.done (cxLc X own caps scope C fp s2 H2) rfl rfl rfl hcalm i [] s3 _ H3 (fun _ _ => False) I3 (stat fr3) st3 stop) fun r s5 ⟨hr, I5⟩ => ?_
      subst hr
      obtain ⟨m5, hn5, _⟩ := id I5.loc
      refine hpost D C s5 m5 H3 hn5 (by rw [hDe]; omega) (I2.fpOk (by rw [hDe]; omega) I5.free) ?_ qn
      exact I2.call' (ch := fp) I5.os I5.base I5.hok I5.bare fun b hb => ⟨(f2 b hb).2.2.2.1, (f2 b hb).2.1, (f2 b hb).2.2.2.2⟩
    · refine thn (T.item (cxLc X own caps scope C fp s2 H2) rfl rfl rfl hcalm i [] s3 _ H3 (fun _ _ => False) I3 (stat fr3) st3 go) fun r s4 ⟨u, hr, h4⟩ => ?_
      subst hr
      refine thn h4 fun _ s5 ⟨x, H5, I5, r5, y5, st5, fr5⟩ => ?_
      have I5' := I5.pinned (stat fr5) (T.obj _ _ st5); refine thn (hg C fp s2 H2 _ s5 _ H5 x u _ I5' r5 (step x H5 y5 vs hvs)) fun _ s6 ⟨σ6, H6, I6, ⟨vs6, hvs6, e6⟩, q6⟩ => ?_
      subst e6
      refine thn (hi C fp s2 H2 _ s6 _ H6 _ I6 q6) fun b s7 ⟨H7, I7, q7⟩ => ?_
      have again : ∀ {H8 : Hp} {s8 : Shared} {ys' : List V}, Inv (cxLc X own caps scope C fp s2 H2) ([] ++ pinsAt fp s5.heap) (vs6 ++ capV σ js) H8 s8 → H8 D = some (.lst ys') → (∃ m', m' < n ∧ W (i + 1) m' ys' H8) →
          ∃ m, m < n ∧ ∃ i vs ys H', vs.length = own.length ∧ Inv (cxLc X own caps scope C fp s2 H2) [] (vs ++ capV σ js) H' s8 ∧ tn i s8.heap ∧ (∀ b ∈ fp, H' b = none) ∧ H' D = some (.lst ys) ∧ W i m ys H' := fun {H8 s8 ys'} I8 hD8 w8 => by
        obtain ⟨m', hm, w8⟩ := w8
        refine ⟨m', hm, i + 1, vs6, ys', H8, hvs6, I8.unpinned, T.keep _ _ _ st5 fun b hb o e => (I8.pin (b, o) (List.mem_append_right _ (List.mem_append_right _ (mem_pinsAt hb e)))).1, fun b hb => ?_, hD8, w8⟩
        obtain ⟨o, e, d⟩ := T.obj _ _ st5 b hb
        exact (I8.pin (b, o) (List.mem_append_right _ (List.mem_append_right _ (mem_pinsAt hb e)))).2.1
      cases b with
      | false => exact again I7 q7.1 q7.2
      | true =>
        refine thn (he C fp s2 H2 _ s7 _ H7 _ I7 q7) fun y s8 ⟨v, H8, I8, r8, hD8, hz8, q8⟩ => ?_
        refine thn (mt_append (X := cxLc X own caps scope C fp s2 H2) _ s8 _ H8 (.ref D) [v] (.ref D) [y] (fun z H9 => H9 = upd H8 D (.lst (ys ++ [v]))) I8 rfl (.cons r8 .nil) ⟨D, ys, v, rfl, rfl, hD8, hz8, rfl⟩) fun _ s9 ⟨z, H9, I9, _, e9⟩ => ?_
        subst e9
        exact again I9 upd_same q8
  refine codeAny_compStart_list (loop _ rfl) (T.self _ 0 _ _ _ (T.keep _ _ _ st2 fun b _ o e => old b o e) (loop _ rfl))
theorem pe_lc (hcalm : X.calm = true) (hkind : scope.kind = .function) (hnames : (scope.names.all fun p => !(p.2 == .local) || (scope.names.lookup p.1 == some .local)) = true) (hcell : (scope.names.any fun p => p.2 == .cell) = false)
    (hk : (scope.names.all fun p => !(p.2 == .free) || (X.env.kindOf p.1 == some .cell || X.env.kindOf p.1 == some .free)) = true)
    (hcap : Caps X scope caps js) (hi : PI X tg iter wi) (hg : ∀ C fp s H, PG (cxLc X own caps scope C fp s H) tg g) (ht : ∀ C fp s H, PIfs (cxLc X own caps scope C fp s H) ifs tt) (he : ∀ C fp s H, PE (cxLc X own caps scope C fp s H) elt te)
    (hs : ∀ x, foldedSetIterable iter X.env x = pure x := by intro _; rfl) : PE X (.ListComp elt [⟨tg, iter, ifs, 0⟩] scope pos) (tLc js own.length wi g tt te) := by
  refine ⟨?_⟩
  intro pins s σ H Q I h
  have hfr : ∀ n, (n, NameKind.free) ∈ scope.names → X.env.kindOf n = some .cell ∨ X.env.kindOf n = some .free := fun n hn => by
    have := (List.all_eq_true.mp hk) _ hn
    simpa using this
  have hn' : ∀ x ∈ scope.names, x.2 = .local → scope.names.lookup x.1 = some .local := fun x hx e => by
    have := (List.all_eq_true.mp hnames) _ hx
    simpa [e] using this
  rw [eval_ListComp]
  refine wpAny_comprehension_free (use := none) rfl hs (closureFor_cl fun n hn => I.ok.has n (hfr n hn)) hkind hn' (thn (hi pins s σ H _ I h) fun v s1 h1 => thn h1 fun itv s2 h2 => ?_)
  obtain ⟨it, fp, tn, J, H2, e, I2, T, st2, f2, hw⟩ := h2
  subst e
  refine lc_run (iter := iter) (pos := pos) (post := fun acc C => compPost (model X.prog X.w) X.A X.xe none (EP X pins σ Q) acc C) hcalm hkind hcell hk hcap hg ht he I2 T st2 f2 hw ?_
  intro D C s' m H' hn _ f hI hq
  exact ⟨m, hn, fun h' hs' => ⟨.ref D, H', hI.turned (t' := s'.toks) (fun b o hb e => (hs'.2 b hb).trans e) f.1 f.2.1 f.2.2.2.1 f.2.2.2.2.1 f.2.2.2.2.2, rfl, hq⟩⟩
theorem ps_setLc {i : Nat} {y : Str} {py : Pos} {spos : Pos} (hsw : swapsWith (.ListComp elt [⟨tg, iter, ifs, 0⟩] scope pos) (some (.Name y py)) spos.line X.env = pure true) (hN : X.N.Nodup) (hy : X.N[i]? = some y) (hyl : X.env.scope.names.lookup y = some .local)
    (hcalm : X.calm = true) (hkind : scope.kind = .function) (hnames : (scope.names.all fun p => !(p.2 == .local) || (scope.names.lookup p.1 == some .local)) = true) (hcell : (scope.names.any fun p => p.2 == .cell) = false)
    (hk : (scope.names.all fun p => !(p.2 == .free) || (X.env.kindOf p.1 == some .cell || X.env.kindOf p.1 == some .free)) = true)
    (hcap : Caps X scope caps js) (hi : PI X tg iter wi) (hg : ∀ C fp s H, PG (cxLc X own caps scope C fp s H) tg g) (ht : ∀ C fp s H, PIfs (cxLc X own caps scope C fp s H) ifs tt) (he : ∀ C fp s H, PE (cxLc X own caps scope C fp s H) elt te)
    (hs : ∀ x, foldedSetIterable iter X.env x = pure x := by intro _; rfl) : PS X (.Assign [.Name y py] (.ListComp elt [⟨tg, iter, ifs, 0⟩] scope pos) spos) (fun D σ H => tLc js own.length wi g tt te σ H fun v H' => D.nx (σ.set i (some v)) H') := by
  refine ⟨?_⟩
  intro pins s σ H D I h
  have hfr : ∀ n, (n, NameKind.free) ∈ scope.names → X.env.kindOf n = some .cell ∨ X.env.kindOf n = some .free := fun n hn => by
    have := (List.all_eq_true.mp hk) _ hn
    simpa using this
  have hn' : ∀ x ∈ scope.names, x.2 = .local → scope.names.lookup x.1 = some .local := fun x hx e => by
    have := (List.all_eq_true.mp hnames) _ hx
    simpa [e] using this
  rw [exec_Assign_Name_used _ _ _ _ hsw]; refine wpAny_bind (wpAny_standAt (wpAny_bind ?_))
  show wpAny _ _ (do let _ ← comprehension (.ListComp elt [⟨tg, iter, ifs, 0⟩] scope pos) scope X.env _ (newList []) false (eval iter X.env) (some (assign (.Name y py) X.env))) _ _ s
  refine wpAny_bind (wpAny_mono (wpAny_comprehension_free (use := some (assign (.Name y py) X.env)) (Q := fun _ s' => SP X pins D .next s') rfl hs (closureFor_cl fun n hn => I.ok.has n (hfr n hn)) hkind hn'
    (thn (hi pins s σ H _ I h) fun v s1 h1 => thn h1 fun itv s2 h2 => ?_)) (fun _ s' hq => wpAny_pure (wpAny_pure hq)) fun _ _ e => e)
  obtain ⟨it, fp, tn, J, H2, e, I2, T, st2, f2, hw⟩ := h2
  subst e
  refine lc_run (iter := iter) (pos := pos) (post := fun acc C => compPost (model X.prog X.w) X.A X.xe (some (assign (.Name y py) X.env)) (fun _ s' => SP X pins D .next s') acc C) hcalm hkind hcell hk hcap hg ht he I2 T st2 f2 hw ?_
  intro Da C s' m H' hn hCs f I' hq
  show wpAny _ _ (assign (.Name y py) X.env (.ref Da)) _ _ _
  refine wpAny_assign_Name (store_ok2 (v := .ref Da) (u := .ref Da) I' hN hy (.inl hyl) rfl (fun s6 I6 hs6 => ?_) (.inr hyl))
  obtain ⟨a, hsb, ha⟩ := hs6
  have haC : a ≠ C := by
    rcases ha with z | z
    · rw [z]; exact Ne.symm f.2.1
    · exact f.2.2.2.2.1 y a z
  exact ⟨m, hn.sameBut hsb (Ne.symm haC), fun h' hs' => ⟨σ.set i (some (.ref Da)), H', I6.turned (t' := s6.toks) (fun b o hb e => (hs'.2 b hb).trans e) f.1 f.2.1 f.2.2.2.1 f.2.2.2.2.1 f.2.2.2.2.2, hq⟩⟩
end
end L2
namespace L2
open PySem PySem.Spec PyProof.Rows
section
variable {X : Cx}
def rNeNil (K : PySem.W.Frag) : R2 := fun x y H Q => ∃ a b xs, x = .ref a ∧ y = .ref b ∧ SqL K H a xs ∧ SqL K H b [] ∧ Q (.bl (!xs.isEmpty)) H
def rEqNil (K : PySem.W.Frag) : R2 := fun x y H Q => ∃ a b xs, x = .ref a ∧ y = .ref b ∧ SqL K H a xs ∧ SqL K H b [] ∧ Q (.bl xs.isEmpty) H
end
end L2
namespace L2
open PySem PySem.Spec PyProof.Rows
def Cal (P : Program) (w : World) (K : PySem.W.Frag) (mg : Str → Option Value) (base : Heap) (x : Str) (k : Nat) (sp : Sp) : Prop :=
  ∃ (f : Addr) (fd : FuncData) (ps : List Str), FnOk P w K mg base CX0 k f fd ps sp ∧ mg x = some (.ref f) ∧ PySem.W.keepIn K (.ref f) = true ∧ Binds K fd ps []
theorem Cal.mono {P : Program} {w : World} {K : PySem.W.Frag} {mg : Str → Option Value} {base : Heap} {x : Str} {j k : Nat} {sp : Sp} (c : Cal P w K mg base x j sp) (h : j ≤ k) : Cal P w K mg base x k sp := by
  obtain ⟨f, fd, ps, F, r⟩ := c
  exact ⟨f, fd, ps, F.mono h, r⟩
def Has (K : PySem.W.Frag) (mg : Str → Option Value) (x : Str) (st : Stmt) (ps : List Str) : Prop :=
  ∃ (f : Addr) (fd : FuncData), Fun K x x st f fd ∧ mg x = some (.ref f) ∧ Binds K fd ps []
section
variable {P : Program} {w : World} {K : PySem.W.Frag} {mg : Str → Option Value} {base : Heap} {x : Str} {st : Stmt} {N ps : List Str} {k : Nat} {sp : Sp}
theorem Has.cal (h : Has K mg x st ps) (S : FnScope N ps (defScope st)) (len : ∀ vs H Q E, sp vs H Q E → vs.length = ps.length)
    (hbody : ∀ (f : Addr) (cdv : Value) (A : Around) (outer : List Env) (s : Shared) (H : Hp) (vs : List V) (Q : VK) (E : XK), Room k (A.deeper (envOfC x (defScope st) s.heap.objs.size f cdv)) → sp vs H Q E →
      ∃ t, PSs (cxOf CX0 P w K mg base N x (defScope st) f cdv A outer s H E).nox (defBody st) t ∧ t { nx := fun _ H' => Q .non H', rt := Q } (start N vs) H) : Cal P w K mg base x (k + 1) sp := by
  obtain ⟨f, fd, F, m, b⟩ := h
  exact ⟨f, fd, ps, F.ok S len (hbody f), m, F.kp, b⟩
end
section
variable {X : Cx} {x : Str} {k : Nat} {sp : Sp} {p pos : Pos} {e : Expr} {es : List Expr} {t : TA}
theorem pe_c (c : Cal X.prog X.w X.K X.mg X.base x k sp) (hr : Room k X.A) (ha : PA X (e :: es) t) (hg : Gl X x := by rfl) (hdb : (x == ("__debug__" : Str)) = false := by decide)
    (he : starEach (e :: es) X.env = (false, eval e X.env) :: starEach es X.env := by rfl) (hpl : (backTo pos (starEach es X.env)).any (·.1) = false := by rfl) : PE X (.Call (.Name x p) (e :: es) [] pos) (tCall sp [] E0 t) := by
  obtain ⟨f, fd, ps, F, m, kk, b⟩ := c
  exact pe_call F hr hg m kk b .nil pass0 ha hdb he hpl
end
end L2
namespace L2
open PySem PySem.Spec PyProof.Rows
theorem b_len : bootBuiltins "len" = some (.builtin "len") := by decide +kernel
theorem b_min : bootBuiltins "min" = some (.builtin "min") := by decide +kernel
theorem b_repr : bootBuiltins "repr" = some (.builtin "repr") := by decide +kernel
theorem b_sorted : bootBuiltins "sorted" = some (.builtin "sorted") := by decide +kernel
theorem b_isinstance : bootBuiltins "isinstance" = some (.builtin "isinstance") := by decide +kernel
theorem b_all : bootBuiltins "all" = some (.builtin "all") := by decide +kernel
theorem b_list : bootBuiltins "list" = some (.type "list") := by decide +kernel
theorem b_tuple : bootBuiltins "tuple" = some (.type "tuple") := by decide +kernel
theorem b_set : bootBuiltins "set" = some (.type "set") := by decide +kernel
theorem b_str : bootBuiltins "str" = some (.type "str") := by decide +kernel
theorem b_int : bootBuiltins "int" = some (.type "int") := by decide +kernel
theorem b_bool : bootBuiltins "bool" = some (.type "bool") := by decide +kernel
end L2
namespace L2
open PySem PySem.Spec PyProof.Rows
def tKnown (D0 : Ends) (R : St → Hp → Prop) : TS := fun D σ H => D = D0 ∧ R σ H
end L2
namespace L2
open PySem PySem.Spec PyProof.Rows
mutual
inductive Tr (f : Addr) (H : Hp) : V → PyData → Prop
  | non : Tr f H .non .none
  | bl (b : Bool) : Tr f H (.bl b) (.bool b)
  | int (i : Int) : Tr f H (.int i) (.int i)
  | str (x : Str) : Tr f H (.str x) (.str x)
  | tup {a : Addr} {xs : List V} {ds : List PyData} : a ≠ f → H a = some (.tup xs) → Trs f H xs ds → Tr f H (.ref a) (.tuple ds)
  | lst {a : Addr} {xs : List V} {ds : List PyData} : a ≠ f → H a = some (.lst xs) → Trs f H xs ds → Tr f H (.ref a) (.list ds)
inductive Trs (f : Addr) (H : Hp) : List V → List PyData → Prop
  | nil : Trs f H [] []
  | cons {x : V} {xs : List V} {d : PyData} {ds : List PyData} : Tr f H x d → Trs f H xs ds → Trs f H (x :: xs) (d :: ds)
end
mutual
theorem Tr.mono {f : Addr} {H H' : Hp} (k : ∀ b o, b ≠ f → H b = some o → H' b = some o) : ∀ {v : V} {d : PyData}, Tr f H v d → Tr f H' v d
  | _, _, .non => .non
  | _, _, .bl b => .bl b
  | _, _, .int i => .int i
  | _, _, .str x => .str x
  | _, _, .tup n e r => .tup n (k _ _ n e) (Trs.mono k r)
  | _, _, .lst n e r => .lst n (k _ _ n e) (Trs.mono k r)
theorem Trs.mono {f : Addr} {H H' : Hp} (k : ∀ b o, b ≠ f → H b = some o → H' b = some o) : ∀ {vs : List V} {ds : List PyData}, Trs f H vs ds → Trs f H' vs ds
  | _, _, .nil => .nil
  | _, _, .cons a r => .cons (Tr.mono k a) (Trs.mono k r)
end
theorem Trs.length {f : Addr} {H : Hp} : ∀ {vs : List V} {ds : List PyData}, Trs f H vs ds → vs.length = ds.length
  | _, _, .nil => rfl
  | _, _, .cons _ r => congrArg (· + 1) (Trs.length r)
theorem Trs.append {f : Addr} {H : Hp} : ∀ {vs ws : List V} {ds es : List PyData}, Trs f H vs ds → Trs f H ws es → Trs f H (vs ++ ws) (ds ++ es)
  | _, _, _, _, .nil, s => s
  | _, _, _, _, .cons a r, s => .cons a (Trs.append r s)
theorem Trs.get {f : Addr} {H : Hp} : ∀ {vs : List V} {ds : List PyData} {i : Nat} {v : V}, Trs f H vs ds → vs[i]? = some v → ∃ d, ds[i]? = some d ∧ Tr f H v d
  | _, _, _, _, .nil, e => by simp at e
  | _, _, 0, _, .cons a _, e => by simp at e; subst e; exact ⟨_, rfl, a⟩
  | _, _, i + 1, v, .cons _ r, e => by
    obtain ⟨d, h1, h2⟩ := Trs.get (i := i) (v := v) r (by simpa using e)
    exact ⟨d, by simpa using h1, h2⟩
theorem Trs.strs {f : Addr} {H : Hp} : ∀ (xs : List Str), Trs f H (xs.map V.str) (xs.map PyData.str)
  | [] => .nil
  | x :: r => .cons (.str x) (Trs.strs r)
theorem Trs.ints {f : Addr} {H : Hp} : ∀ (xs : List Int), Trs f H (xs.map V.int) (xs.map PyData.int)
  | [] => .nil
  | x :: r => .cons (.int x) (Trs.ints r)
section
variable {X : Cx} {pins : List (Addr × Obj)} {σ : St} {H : Hp} {s : Shared} {f : Addr}
mutual
theorem Tr.reads (I : Inv X pins σ H s) : ∀ {v : V} {d : PyData} {u : Value}, Tr f H v d → RelV v u → ∃ as, Reads s.heap u d as
  | _, _, u, .non, r => by cases (show u = Value.none from r); exact ⟨_, .none⟩
  | _, _, u, .bl b, r => by cases (show u = Value.bool b from r); exact ⟨_, .bool b⟩
  | _, _, u, .int i, r => by obtain ⟨t, e⟩ := (show ∃ t, u = Value.int i t from r); subst e; exact ⟨_, .int i t⟩
  | _, _, u, .str x, r => by obtain ⟨t, e⟩ := (show ∃ t, u = Value.str x t from r); subst e; exact ⟨_, .str x t⟩
  | _, _, u, .tup (a := a) (xs := xs) n e q, r => by
    cases (show u = Value.ref a from r)
    obtain ⟨z, its, rv, o, h1, h2, k, h3⟩ := (show ObjOk X.prog X.w H s.heap a (.tup xs) from I.hok a _ e)
    obtain ⟨as, ra⟩ := Trs.reads I q rv
    exact ⟨_, .tuple h1 h2 h3 ra⟩
  | _, _, u, .lst (a := a) (xs := xs) n e q, r => by
    cases (show u = Value.ref a from r)
    obtain ⟨z, its, k, rv, h1⟩ := (show ObjOk X.prog X.w H s.heap a (.lst xs) from I.hok a _ e)
    obtain ⟨as, ra⟩ := Trs.reads I q rv
    exact ⟨_, .list h1 rfl rfl ra⟩
theorem Trs.reads (I : Inv X pins σ H s) : ∀ {vs : List V} {ds : List PyData} {us : List Value}, Trs f H vs ds → Vals vs us → ∃ as, ReadsAll s.heap us ds as
  | _, _, _, .nil, r => by cases r; exact ⟨_, .nil⟩
  | _, _, _, .cons a b, r => by
    cases r with
    | cons r1 r2 =>
      obtain ⟨as, h1⟩ := Tr.reads I a r1
      obtain ⟨bs, h2⟩ := Trs.reads I b r2
      exact ⟨_, .cons h1 h2⟩
end
mutual
theorem Tr.noDict : ∀ {v : V} {d : PyData}, Tr f H v d → d.hasDict = false
  | _, _, .non => rfl
  | _, _, .bl b => rfl
  | _, _, .int i => rfl
  | _, _, .str x => rfl
  | _, _, .tup n e q => by simpa [PyData.hasDict] using Trs.noDict q
  | _, _, .lst n e q => by simpa [PyData.hasDict] using Trs.noDict q
theorem Trs.noDict : ∀ {vs : List V} {ds : List PyData}, Trs f H vs ds → PyData.hasDictAll ds = false
  | _, _, .nil => rfl
  | _, _, .cons a b => by simp [PyData.hasDictAll, Tr.noDict a, Trs.noDict b]
end
end
structure Shows (d : PyData) : Prop where
  ok : d.showable = true
  dp : d.depth ≤ 150
  sz : d.shown.length ≤ sizeLine
section
variable {X : Cx}
def tyD : PyData → String
  | .none => "NoneType"
  | .bool _ => "bool"
  | .int _ => "int"
  | .str _ => "str"
  | .list _ => "list"
  | .tuple _ => "tuple"
  | .dict _ => "dict"
theorem Tr.ty {K : PySem.W.Frag} {f : Addr} {H : Hp} {v : V} {d : PyData} (t : Tr f H v d) : TyOf K H v (.type (tyD d)) := by
  cases t with
  | non => exact .non
  | bl b => exact .bl b
  | int i => exact .int i
  | str x => exact .str x
  | tup n e w => exact .tup e
  | lst n e w => exact .lst e
def isiD (d : PyData) (n : String) : Bool := match d with
  | .none => n == "NoneType"
  | .bool _ => n == "bool" || n == "int"
  | .int _ => n == "int"
  | .str _ => n == "str"
  | .list _ => n == "list"
  | .tuple _ => n == "tuple"
  | .dict _ => n == "dict"
theorem kit_ok (K : PySem.W.Frag) (d : PyData) (n : String) (hn : n = "str" ∨ n = "int" ∨ n = "bool" ∨ n = "tuple" ∨ n = "list") : PySem.W.kitOne K (.type (tyD d)) (.type n) = some (isiD d n) := by
  rcases hn with rfl | rfl | rfl | rfl | rfl <;> cases d <;> rfl
theorem ext_tup (l : Addr) (its : Array Value) (n : Nat) (b : Addr) (jts : Array Value) (m : Nat) (dd : Option Addr) (sl : Array (Option Value)) (z0 : ¬(!its.isEmpty && Builtin.List.listTooLong (its.size + jts.size)) = true) (z1 : its.size ≤ sizeLine) (z2 : its.size + jts.size ≤ sizeLine + 1) :
    Meets (Builtin.«list.extend» ⟨[.ref l, .ref b], []⟩) (fun _ R s => s.heap.get? l = some { cls := .type "list", data := .seq its n } ∧ s.heap.get? b = some { cls := .type "tuple", dict := dd, data := .seq jts m, slots := sl } ∧
      R (.ok (.ret Value.none)) { s with heap := s.heap.update l (Obj.mapSeq fun x => x ++ jts), toks := s.toks }) :=
  .of_wp fun pr wo ar re st h => by
    obtain ⟨he, ge, dr, tk, oz⟩ := st
    obtain ⟨hl, hb, h⟩ := h
    have f1 := PySem.AutoSeq1.idx_int
    have f2 := PySem.AutoSeq1.sub_tuple_tuple
    have f3 := PySem.AutoSeq1.sub_list_list
    have f4 := PySem.AutoSeq1.sub_tuple_list
    have f5 := PySem.AutoSeq1.sub_list_tuple
    have z3 : (its ++ jts).size ≤ sizeLine + 1 := by
      rw [Array.size_append]
      exact z2
    wp_walk using (wpAny_updateSeq hl rfl (hz := z1) (_hz' := z3)), PySem.AutoSeq1.wpAny_loadPart' hl, PySem.AutoSeq1.wpAny_loadPart' hb
    exact ⟨_, rfl, h⟩
def rExtendT (K : PySem.W.Frag) : V → List V → Hp → VK → Prop := fun x vs H Q => ∃ l b xs zs, x = .ref l ∧ vs = [.ref b] ∧ H l = some (.lst xs) ∧ SqT K H b zs ∧ xs.length + zs.length ≤ sizeLine ∧ Q .non (upd H l (.lst (xs ++ zs)))
theorem mt_extendT : MtM X "list.extend" (rExtendT X.K) := by
  intro pins s σ H x vs v us Q I rx rv h
  obtain ⟨l, b, xs, zs, rfl, rfl, hH, hB, hz, q⟩ := h
  cases rx
  obtain ⟨u, rfl, ru⟩ := rv.one
  cases ru
  obtain ⟨z, its, n, r, hl, e⟩ := I.lstM hH
  obtain ⟨jts, r2, p2, z2⟩ := I.tuple hB
  have hl2 := r2.length
  obtain ⟨⟨c, dd, dt, sl⟩, e2, c2, m, d2⟩ := p2
  simp only at c2 d2
  subst c2 d2
  have hsz : its.toArray.size + jts.toArray.size ≤ sizeLine := by rw [List.size_toArray, List.size_toArray]; omega
  have hlong : ¬ (!its.toArray.isEmpty && Builtin.List.listTooLong (its.toArray.size + jts.toArray.size)) = true := by
    rw [notLongL hsz, Bool.and_false]
    exact Bool.false_ne_true
  refine call_meets F.slot_list_extend ⟨_, e, rfl⟩ F.entry_list_extend (F.args_list_extend_2 _ _) (ext_tup l its.toArray n b jts.toArray m dd sl hlong (by rw [List.size_toArray]; omega) (by omega)) ⟨e, e2, ?_⟩
  refine ⟨.non, _, I.lset (its' := its ++ jts) hH e (by simp) (r.append r2) ?_, rfl, q⟩
  rw [List.length_append]
  omega
end
end L2
namespace L2
open PySem PySem.Spec PyProof.Rows
def conV : Const → Option V
  | .str x => some (.str x)
  | .int i => some (.int i)
  | .bool b => some (.bl b)
  | .none => some .non
  | _ => none
def conOf : List Expr → Option (List V)
  | [] => some []
  | .Constant c _ _ :: r => match conV c with
    | some v => match conOf r with
      | some vs => some (v :: vs)
      | none => none
    | none => none
  | _ => none
theorem star_con {c : Const} {j : Nat} {pos : Pos} {es : List Expr} {env : Env} : starEach (.Constant c j pos :: es) env = (false, eval (.Constant c j pos) env) :: starEach es env := by rfl
def tVs (vs : List V) : TA := fun _ H Q => Q vs H
section
variable {X : Cx}
theorem pe_con1 {c : Const} {j : Nat} {pos : Pos} {v : V} (h : conV c = some v) : PE X (.Constant c j pos) (tC v) := by
  cases c <;> simp [conV] at h <;> subst h
  all_goals first
    | exact pe_str
    | exact pe_int
    | exact pe_bl
    | exact pe_non
theorem pa_consts : ∀ {es : List Expr} {vs : List V}, conOf es = some vs → PA X es (tVs vs)
  | [], vs, h => by
    cases h
    exact pa_nil
  | e :: es, vs, h => by
    cases e with
    | Constant c j pos =>
      simp only [conOf] at h
      cases h1 : conV c with
      | none =>
        rw [h1] at h
        cases h
      | some v =>
        rw [h1] at h
        cases h2 : conOf es with
        | none => rw [h2] at h; cases h
        | some ws =>
          rw [h2] at h
          cases h
          have p := pa_cons (pe_con1 (X := X) (pos := pos) (j := j) h1) (pa_consts h2) star_con
          exact p
    | _ => simp [conOf] at h
end
end L2
namespace L2
open PySem PySem.Spec PyProof.Rows
structure New (H : Hp) (p : Addr) (o : HO) (H' : Hp) : Prop where
  no : H p = none
  eq : H' = upd H p o
theorem New.at {H H' : Hp} {p : Addr} {o : HO} (n : New H p o H') : H' p = some o := by rw [n.eq, upd_same]
theorem New.keep {H H' : Hp} {p b : Addr} {o u : HO} (n : New H p o H') (e : H b = some u) : H' b = some u := by rw [n.eq, upd_ne (ne_of_none e n.no)]; exact e
theorem New.ne {H H' : Hp} {p b : Addr} {o u : HO} (n : New H p o H') (e : H b = some u) : b ≠ p := ne_of_none e n.no
structure Chg (H : Hp) (p : Addr) (o : HO) (H' : Hp) : Prop where
  eq : H' = upd H p o
theorem Chg.at {H H' : Hp} {p : Addr} {o : HO} (n : Chg H p o H') : H' p = some o := by rw [n.eq, upd_same]
theorem Chg.keep {H H' : Hp} {p b : Addr} {o u : HO} (n : Chg H p o H') (h : b ≠ p) (e : H b = some u) : H' b = some u := by rw [n.eq, upd_ne h]; exact e
section
variable {X : Cx}
theorem PE.weak {e : Expr} {t t' : TE} (h : PE X e t) (k : ∀ σ H Q, t' σ H Q → t σ H Q) : PE X e t' := .mk <| fun pins s σ H Q I q => h pins s σ H Q I (k σ H Q q)
theorem OpR.weak {f : Value → Value → Sem Value} {r r' : R2} (h : OpR X f r) (k : ∀ x y H Q, r' x y H Q → r x y H Q) : OpR X f r' := fun pins s σ H x y v u Q I rx ry q => h pins s σ H x y v u Q I rx ry (k x y H Q q)
theorem CallR.weak {f : Value} {r r' : List V → Hp → VK → Prop} (h : CallR X f r) (k : ∀ xs H Q, r' xs H Q → r xs H Q) : CallR X f r' := fun pins s σ H xs us Q I rv q => h pins s σ H xs us Q I rv (k xs H Q q)
theorem MtM.weak {id : String} {r r' : V → List V → Hp → VK → Prop} (h : MtM X id r) (k : ∀ x xs H Q, r' x xs H Q → r x xs H Q) : MtM X id r' := fun pins s σ H x xs v us Q I rx rv q => h pins s σ H x xs v us Q I rx rv (k x xs H Q q)
theorem SlR.weak {r r' : V → Option Int → Option Int → Hp → VK → Prop} (h : SlR X r) (k : ∀ x lo hi H Q, r' x lo hi H Q → r x lo hi H Q) : SlR X r' := by
  intro pins s σ H x v vl vu lo hi sl Q I rx hs pl pu q
  exact h pins s σ H x v vl vu lo hi sl Q I rx hs pl pu (k x lo hi H Q q)
theorem PSet.weak {t t' : TSet} (h : PSet X t) (k : ∀ o i v H Q, t' o i v H Q → t o i v H Q) : PSet X t' := fun pins s σ H o i v ov iv u Q I ro ri rv q => h pins s σ H o i v ov iv u Q I ro ri rv (k o i v H Q q)
def tTupN (t : TA) : TE := fun σ H Q => t σ H fun xs H1 => xs.length ≤ sizeLine ∧ ∀ p H', New H1 p (.tup xs) H' → Q (.ref p) H'
def tLstN (t : TA) : TE := fun σ H Q => t σ H fun xs H1 => xs.length ≤ sizeLine ∧ ∀ p H', New H1 p (.lst xs) H' → Q (.ref p) H'
def MonoA (t : TA) : Prop := ∀ σ H Q Q', (∀ xs H', Q xs H' → Q' xs H') → t σ H Q → t σ H Q'
theorem pe_tupN {es : List Expr} {t : TA} {x1 pos} (h : PA X es t) : PE X (.Tuple es x1 pos) (tTupN t) := by
  refine ⟨?_⟩
  intro pins s σ H Q I hq
  refine wpAny_Tuple_spliced (thn (h pos pins s σ H _ I hq) fun us s1 ⟨xs, H1, I1, r, z, q⟩ => ⟨by rw [← r.length]; exact z, ?_⟩)
  have hf : H1 s1.heap.objs.size = none := I1.hok.fresh (Nat.le_refl _)
  refine ⟨.ref s1.heap.objs.size, upd H1 s1.heap.objs.size (.tup xs), I1.laid (t' := s1.toks) (fun b u e => Heap.get?_push_of_some _ e) (Nat.le_refl _) ?_, rfl, q _ _ ⟨hf, rfl⟩⟩
  exact ⟨z, us, r, ⟨_, Heap.get?_push_size _ rfl, rfl, _, rfl⟩⟩
theorem pe_lstN {es : List Expr} {t : TA} {pos} (h : PA X es t) : PE X (.List es pos) (tLstN t) := by
  refine ⟨?_⟩
  intro pins s σ H Q I hq
  refine wpAny_List_spliced (thn (h pos pins s σ H _ I hq) fun us s1 ⟨xs, H1, I1, r, z, q⟩ => ⟨by rw [← r.length]; exact z, ?_⟩)
  have hf : H1 s1.heap.objs.size = none := I1.hok.fresh (Nat.le_refl _)
  refine ⟨.ref s1.heap.objs.size, upd H1 s1.heap.objs.size (.lst xs), I1.laid (t' := s1.toks) (fun b u e => Heap.get?_push_of_some _ e) (Nat.le_refl _) ?_, rfl, q _ _ ⟨hf, rfl⟩⟩
  exact ⟨z, us, 0, r, Heap.get?_push_size _ rfl⟩
def rSlLN (K : PySem.W.Frag) : V → Option Int → Option Int → Hp → VK → Prop := fun x lo hi H Q => ∃ a xs, x = .ref a ∧ SqL K H a xs ∧ ∀ p H', New H p (.lst (cutV xs lo hi)) H' → Q (.ref p) H'
theorem sl_listN : SlR X (rSlLN X.K) := sl_list.weak fun x lo hi H Q ⟨a, xs, e, h, q⟩ => ⟨a, xs, e, h, fun p hp => q p _ ⟨hp, rfl⟩⟩
def rSlTN (K : PySem.W.Frag) : V → Option Int → Option Int → Hp → VK → Prop := fun x lo hi H Q => ∃ a xs, x = .ref a ∧ SqT K H a xs ∧ ¬ (HT.sIx xs.length 0 lo = 0 ∧ HT.sIx xs.length xs.length hi = xs.length) ∧ ∀ p H', New H p (.tup (cutV xs lo hi)) H' → Q (.ref p) H'
theorem sl_tupN : SlR X (rSlTN X.K) := sl_tup.weak fun x lo hi H Q ⟨a, xs, e, h, n, q⟩ => ⟨a, xs, e, h, n, fun p hp => q p _ ⟨hp, rfl⟩⟩
def rCatN : R2 := fun x y H Q => ∃ l b xs zs, x = .ref l ∧ y = .ref b ∧ H l = some (.lst xs) ∧ H b = some (.lst zs) ∧ xs.length + zs.length ≤ sizeLine ∧ ∀ p H', New H p (.lst (xs ++ zs)) H' → Q (.ref p) H'
theorem op_catN : OpR X (binaryOp .Add) rCatN := op_cat.weak fun x y H Q ⟨l, b, xs, zs, e1, e2, h1, h2, n, q⟩ => ⟨l, b, xs, zs, e1, e2, h1, h2, n, fun p hp => q p _ ⟨hp, rfl⟩⟩
def rCatTN (K : PySem.W.Frag) : R2 := fun x y H Q => ∃ a b xs ys, x = .ref a ∧ y = .ref b ∧ SqT K H a xs ∧ SqT K H b ys ∧ xs ≠ [] ∧ xs.length + ys.length ≤ sizeLine ∧ (ys = [] → Q (.ref a) H) ∧ (ys ≠ [] → ∀ p H', New H p (.tup (xs ++ ys)) H' → Q (.ref p) H')
theorem call_listN : CallR X (.type "list") (fun xs H Q => ∃ p ys, xs = [.ref p] ∧ (SqL X.K H p ys ∨ SqT X.K H p ys) ∧ ∀ l H', New H l (.lst ys) H' → Q (.ref l) H') :=
  call_list_of.weak fun xs H Q ⟨p, ys, e, h, q⟩ => ⟨p, ys, e, h, fun l hl => q l _ ⟨hl, rfl⟩⟩
theorem call_tupleN : CallR X (.type "tuple") (fun xs H Q => ∃ p ys, xs = [.ref p] ∧ ((SqL X.K H p ys ∧ ∀ l H', New H l (.tup ys) H' → Q (.ref l) H') ∨ (SqT X.K H p ys ∧ Q (.ref p) H))) :=
  call_tuple_of.weak fun xs H Q ⟨p, ys, e, h⟩ => ⟨p, ys, e, h.imp (fun ⟨a, q⟩ => ⟨a, fun l hl => q l _ ⟨hl, rfl⟩⟩) id⟩
def rAppendN : V → List V → Hp → VK → Prop := fun x vs H Q => ∃ l xs y, x = .ref l ∧ vs = [y] ∧ H l = some (.lst xs) ∧ xs.length < sizeLine ∧ ∀ H', Chg H l (.lst (xs ++ [y])) H' → Q .non H'
theorem mt_appendN : MtM X "list.append" rAppendN := mt_append.weak fun x vs H Q ⟨l, xs, y, e1, e2, h, n, q⟩ => ⟨l, xs, y, e1, e2, h, n, q _ ⟨rfl⟩⟩
def rExtendN : V → List V → Hp → VK → Prop := fun x vs H Q => ∃ l b xs zs, x = .ref l ∧ vs = [.ref b] ∧ H l = some (.lst xs) ∧ H b = some (.lst zs) ∧ xs.length + zs.length ≤ sizeLine ∧ ∀ H', Chg H l (.lst (xs ++ zs)) H' → Q .non H'
theorem mt_extendN : MtM X "list.extend" rExtendN := mt_extend.weak fun x vs H Q ⟨l, b, xs, zs, e1, e2, h, hb, n, q⟩ => ⟨l, b, xs, zs, e1, e2, h, hb, n, q _ ⟨rfl⟩⟩
def rExtendTN (K : PySem.W.Frag) : V → List V → Hp → VK → Prop := fun x vs H Q => ∃ l b xs zs, x = .ref l ∧ vs = [.ref b] ∧ H l = some (.lst xs) ∧ SqT K H b zs ∧ xs.length + zs.length ≤ sizeLine ∧ ∀ H', Chg H l (.lst (xs ++ zs)) H' → Q .non H'
theorem mt_extendTN : MtM X "list.extend" (rExtendTN X.K) := mt_extendT.weak fun x vs H Q ⟨l, b, xs, zs, e1, e2, h, hb, n, q⟩ => ⟨l, b, xs, zs, e1, e2, h, hb, n, q _ ⟨rfl⟩⟩
def rPopAtN : V → List V → Hp → VK → Prop := fun x vs H Q => ∃ l xs i k y, x = .ref l ∧ vs = [.int i] ∧ H l = some (.lst xs) ∧ -(2 ^ 63) ≤ i ∧ i < 2 ^ 63 ∧ seqIndex? i xs.length = some k ∧ xs[k]? = some y ∧ ∀ H', Chg H l (.lst (xs.eraseIdx k)) H' → Q y H'
theorem mt_popAtN : MtM X "list.pop" rPopAtN := mt_popAt.weak fun x vs H Q ⟨l, xs, i, k, y, e1, e2, h, n1, n2, n3, n4, q⟩ => ⟨l, xs, i, k, y, e1, e2, h, n1, n2, n3, n4, q _ ⟨rfl⟩⟩
def rSetLN : V → V → V → Hp → (Hp → Prop) → Prop := fun o i v H Q => ∃ p xs k j, o = .ref p ∧ i = .int k ∧ H p = some (.lst xs) ∧ ixN xs.length k = some j ∧ ∀ H', Chg H p (.lst (xs.set j v)) H' → Q H'
theorem set_listN : PSet X rSetLN := set_list.weak fun o i v H Q ⟨p, xs, k, j, e1, e2, h, n, q⟩ => ⟨p, xs, k, j, e1, e2, h, n, q _ ⟨rfl⟩⟩
end
end L2
namespace L2
open PySem PySem.Spec PyProof.Rows
def TabX (w : World) (k : Nat) (t : SetTable) : Prop := t.led = !(w.params.followText "set-order") ∧ (k ≠ 0 → t.plain = false)
def SetX (P : Program) (w : World) (h : Heap) (a : Addr) (S : Str → Bool) (n : Nat) : Prop :=
  ∃ o es ep t, h.get? a = some o ∧ o.ExactSet ∧ o.data = .set es ep t ∧ (ElemsOf (PySem.strKind P w) es.toList ∧ (∀ k, S k = true ↔ ∃ e ∈ es.toList, (PySem.strKind P w).is k e.2 = true)
    ∧ es.size < scanBound ∧ t.fits es.size = true ∧ es.size = n) ∧ TabX w es.size t
theorem SetX.congr {P : Program} {w : World} {h : Heap} {a : Addr} {S S' : Str → Bool} {n n' : Nat} (z : SetX P w h a S n) (hS : ∀ k, S' k = S k) (hn : n' = n) : SetX P w h a S' n' := by
  subst hn
  obtain ⟨o, es, ep, t, e, ex, d, ⟨q1, q2, q3⟩, q4⟩ := z
  exact ⟨o, es, ep, t, e, ex, d, ⟨q1, fun k => by rw [hS k]; exact q2 k, q3⟩, q4⟩
theorem lay_led (t : SetTable) (es : Array (Int × Value)) (h : Int) (x : Value) : (layNew t es h x).2.1.led = t.led := by
  have si : ∀ (u : SetTable) (m : Nat), (u.orStandIn m).led = u.led := fun u m => by
    unfold SetTable.orStandIn
    by_cases c : u.fits m = true
    · rw [if_pos c]
    · rw [if_neg c]; rfl
  unfold layNew
  cases t.freeSlot h with
  | none => rfl
  | some q =>
    obtain ⟨sl, wd⟩ := q
    exact (si _ _).trans rfl
theorem relaid_keeps {t t' : SetTable} {hs : Array Int} {wd : Nat} {od : Array Nat} (e : t.relaid hs wd = some (t', od)) : t'.led = t.led ∧ t'.plain = t.plain := by
  unfold SetTable.relaid SetTable.laid at e
  cases c : SetTable.layClean (SetTable.sizeAbove wd - 1) hs with
  | none => rw [c] at e; cases e
  | some ow =>
    rw [c] at e
    simp only [Option.bind_eq_bind, Option.bind_some, Option.pure_def, Option.some.injEq, Prod.mk.injEq] at e
    obtain ⟨rfl, _⟩ := e
    exact ⟨rfl, rfl⟩
theorem relay_tab (t : SetTable) (es : Array (Int × Value)) (wd : Nat) : (relayAll t es wd).2.1.led = t.led ∧ (t.plain = false → (relayAll t es wd).2.1.plain = false) := by
  unfold relayAll
  cases c : t.relaid (es.map (·.1)) wd with
  | none => exact ⟨rfl, fun _ => rfl⟩
  | some q =>
    obtain ⟨t', od⟩ := q
    obtain ⟨k1, k2⟩ := relaid_keeps c
    dsimp only
    split
    · exact ⟨k1, fun z => k2.trans z⟩
    · exact ⟨rfl, fun _ => rfl⟩
section
variable {prog : Program} {w : World} {A : Around} {E : Value → Shared → Prop} {s : Shared}
theorem storeX {h : Heap} {a : Addr} {o : Obj} {es : Array (Int × Value)} {ep : Nat} {t : SetTable} (ho : h.get? a = some o) (hex : o.ExactSet) (hd : o.data = .set es ep t)
    {es' : Array (Int × Value)} {t' : SetTable} {S' : Str → Bool} (q : ElemsOf (PySem.strKind prog w) es'.toList ∧ (∀ k, S' k = true ↔ ∃ e ∈ es'.toList, (PySem.strKind prog w).is k e.2 = true) ∧ es'.size < scanBound ∧ t'.fits es'.size = true) (tx : TabX w es'.size t') :
    (h.update a (Obj.putSet es' t')).get? a = some { o with data := .set es' (ep + 1) t' } ∧ SetX prog w (h.update a (Obj.putSet es' t')) a S' es'.size := by
  obtain ⟨g, _⟩ := SetOf_store (knd := PySem.strKind prog w) ho hex hd q.1 q.2.1 q.2.2.1 q.2.2.2
  exact ⟨g, _, es', ep + 1, t', g, hex, rfl, ⟨q.1, q.2.1, q.2.2.1, q.2.2.2, rfl⟩, tx⟩
theorem tailX {g : Bool → Sem Unit} (hg : ∀ (b : Bool) (s1 : Shared) (Q' : Unit → Shared → Prop), Q' () s1 → wpAny (model prog w) A (g b) Q' E s1)
    {a : Addr} {o : Obj} {es : Array (Int × Value)} {ep : Nat} {t : SetTable} (ho : s.heap.get? a = some o) (hex : o.ExactSet) (hd : o.data = .set es ep t) {es1 : Array (Int × Value)} {t2 : SetTable} {S' : Str → Bool} (q : ElemsOf (PySem.strKind prog w) es1.toList ∧ (∀ k, S' k = true ↔ ∃ e ∈ es1.toList, (PySem.strKind prog w).is k e.2 = true) ∧ es1.size < scanBound ∧ t2.fits es1.size = true)
    (tx : t2.led = !(w.params.followText "set-order") ∧ t2.plain = false) {wasDummy : Bool} {R : Option Bool → Shared → Prop}
    (h : ∀ h', Heap.SameBut a s.heap h' → SetX prog w h' a S' es1.size → R (some true) { s with heap := h' }) :
    wpAny (model prog w) A (do
      storeSet a es1 t2
      if (!wasDummy && t2.tooFull) = true then do g (relayAll t2 es1 (SetTable.grown es1.size)).2.2; storeSet a (relayAll t2 es1 (SetTable.grown es1.size)).1 (relayAll t2 es1 (SetTable.grown es1.size)).2.1; pure (some true) else pure (some true)) R E s := by
  obtain ⟨q1, q2, q3, q4⟩ := q
  refine wpAny_bind (wpAny_storeSet_of ho hd ?_ (fits_of_scanBound q3))
  obtain ⟨g1, x1⟩ := storeX (w := w) (prog := prog) ho hex hd ⟨q1, q2, q3, q4⟩ ⟨tx.1, fun _ => tx.2⟩
  have b1 := Heap.SameBut.update s.heap a (Obj.putSet es1 t2)
  split
  · have p := relayAll_perm t2 es1 (SetTable.grown es1.size)
    have f := relayAll_fits t2 es1 (SetTable.grown es1.size)
    have tt := relay_tab t2 es1 (SetTable.grown es1.size)
    revert p f tt
    generalize relayAll t2 es1 (SetTable.grown es1.size) = Rl
    obtain ⟨es2, t3, gv⟩ := Rl
    intro p f tt
    dsimp only at p f tt ⊢
    have z : es2.size = es1.size := by
      have := p.length_eq
      rwa [Array.length_toList, Array.length_toList] at this
    have b2 : es2.size < scanBound := z ▸ q3
    refine wpAny_bind (hg _ _ _ (wpAny_bind (wpAny_storeSet_of g1 rfl ?_ (fits_of_scanBound b2))))
    obtain ⟨_, x2⟩ := storeX (w := w) (prog := prog) (S' := S') g1 hex rfl ⟨q1.perm p, fun k => (q2 k).trans ⟨fun ⟨e, m, y⟩ => ⟨e, p.mem_iff.mpr m, y⟩, fun ⟨e, m, y⟩ => ⟨e, p.mem_iff.mp m, y⟩⟩, b2, f⟩ ⟨tt.1.trans tx.1, fun _ => tt.2 tx.2⟩
    exact wpAny_pure (h _ (b1.trans (Heap.SameBut.update _ a _)) (z ▸ x2))
  · exact wpAny_pure (h _ b1 x1)
theorem addX {a : Addr} {S : Str → Bool} {n : Nat} {k : Str} {tk : Tok} {Q : Bool → Shared → Prop} (hS : SetX prog w s.heap a S n) (hroom : n + 1 < scanBound)
    (h : ∀ h', Heap.SameBut a s.heap h' → SetX prog w h' a (fun y => S y || decide (y = k)) (if S k then n else n + 1) → Q (!S k) { s with heap := h' }) :
    wpAny (model prog w) A (setAddHashed a (.str k tk) ((PySem.strKind prog w).hash k)) Q E s := by
  have hkey : (PySem.strKind prog w).is k (.str k tk) = true := by show Value.isStrOf k (.str k tk) = true; simp [Value.isStrOf]
  obtain ⟨o, es, ep, t, ho, hex, hd, ⟨hel, hmem, hb, hf, hn⟩, tx⟩ := hS
  have hgw : ∀ (b : Bool) {s1 : Shared} {Q' : Unit → Shared → Prop}, Q' () s1 → wpAny (model prog w) A (match b with | true => rule "set.scan.the-table-gave-way" | false => pure ()) Q' E s1 := by
    intro b s1 Q' z
    cases b
    · exact wpAny_pure z
    · exact wpAny_rule z
  unfold setAddHashed setAddHashedIn; refine wpAny_holding (wpAny_bind (wpAny_setState_of ho hd hf ?_))
  dsimp only
  rw [byScan_of (knd := PySem.strKind prog w) rfl hb hel, if_pos rfl]
  unfold setAddByScan
  refine wpAny_bind (wpAny_bind (wpAny_rule (wpAny_bind (wpAny_setScan_of hkey ho hd hf hel ?_))))
  cases hr : List.findIdx? (fun e => (PySem.strKind prog w).is k e.2) es.toList with
  | some j =>
    obtain ⟨hj, hpj, _⟩ := List.findIdx?_eq_some_iff_getElem.mp hr; have sk : S k = true := (hmem k).mpr ⟨es.toList[j], List.getElem_mem hj, hpj⟩
    dsimp only
    refine wpAny_pure (wpAny_pure ?_); have z := h s.heap (Heap.SameBut.refl a s.heap) ⟨o, es, ep, t, ho, hex, hd, ⟨hel, fun y => by
      rw [Bool.or_eq_true, decide_eq_true_eq, ← hmem y]
      exact ⟨fun c => c.elim id (fun e => e ▸ sk), .inl⟩, hb, hf, by rw [sk]; exact hn⟩, tx⟩
    rw [sk] at z
    exact z
  | none =>
    dsimp only
    have sk : S k = false := by
      cases c : S k with
      | false => rfl
      | true =>
        obtain ⟨e, m, y⟩ := (hmem k).mp c
        exact Bool.noConfusion (y.symm.trans (List.findIdx?_eq_none_iff.mp hr e m))
    have p := layNew_perm t es ((PySem.strKind prog w).hash k) (.str k tk)
    have f := layNew_fits t es ((PySem.strKind prog w).hash k) (.str k tk)
    have ld := lay_led t es ((PySem.strKind prog w).hash k) (.str k tk)
    revert p f ld
    generalize layNew t es ((PySem.strKind prog w).hash k) (.str k tk) = L
    obtain ⟨es1, t1, wd, gv⟩ := L
    intro p f ld
    dsimp only at p f ld ⊢
    rw [Array.toList_push] at p
    have z1 : es1.size = n + 1 := by
      have := p.length_eq
      rw [Array.length_toList, List.length_append, Array.length_toList, hn] at this
      exact this
    have b1 : es1.size < scanBound := z1 ▸ hroom
    have q : ElemsOf (PySem.strKind prog w) es1.toList ∧ (∀ y, (fun y => S y || decide (y = k)) y = true ↔ ∃ e ∈ es1.toList, (PySem.strKind prog w).is y e.2 = true) ∧ es1.size < scanBound :=
      ⟨(hel.push hkey rfl).perm p, fun y => mem_push_iff hkey hmem p y, b1⟩
    have fin : ∀ h', Heap.SameBut a s.heap h' → SetX prog w h' a (fun y => S y || decide (y = k)) es1.size → Q true { s with heap := h' } := fun h' u v => by
      have := h h' u
      rw [sk, if_neg Bool.false_ne_true, ← z1] at this
      exact this v
    refine wpAny_bind (hgw _ ?_)
    split
    · refine wpAny_bind ?_
      rw [hashByValue_scannable 8 rfl]
      refine wpAny_pure (tailX (fun b s1 Q' z => ?_) ho hex hd ⟨q.1, q.2.1, q.2.2, ?_⟩ ⟨?_, ?_⟩ fun h' u v => ?_)
      · cases b
        · exact wpAny_pure z
        · exact wpAny_rule z
      · exact SetTable.fits_plain_off f
      · exact ld.trans tx.1
      · rfl
      · dsimp only; exact wpAny_pure (fin h' u v)
    · rename_i hpl
      refine wpAny_bind (wpAny_pure ?_); simp only [↓reduceIte]
      refine tailX (fun b s1 Q' z => ?_) ho hex hd ⟨q.1, q.2.1, q.2.2, f⟩ ⟨ld.trans tx.1, ?_⟩ fun h' u v => ?_
      · cases b
        · exact wpAny_pure z
        · exact wpAny_rule z
      · simpa using hpl
      · dsimp only; exact wpAny_pure (fin h' u v)
theorem newX (a : Value) {Q1 : Value → Shared → Prop} (h : Q1 (.ref s.heap.objs.size) { s with heap := s.heap.push { cls := .type "set", dict := none, data := .set #[] 0 (.fresh 0 0 (!(w.params.followText "set-order"))) } }) :
    codeAny (model prog w) A (.call (.builtin "set.__new__") ⟨[.type "set", a], []⟩) (wants Q1 E) s := by
  refine codeAny_of_tree (show wpAny _ A.in1 (do checkBuiltinCall "set.__new__" ⟨[.type "set", a], []⟩; again (.builtin "set.__new__" ⟨[.type "set", a], []⟩)) _ _ s from ?_)
  refine wpAny_bind (wpAny_of_eq (PySem.F.newCall_set_1 a) (wpAny_pure ⟨plainId_quiet PySem.F.plain_set_new _, codeAny_builtin PySem.F.entry_set_new ?_⟩))
  rw [Around.under_plainId PySem.F.plain_set_new _]; unfold Builtin.«set.__new__» Builtin.Frozenset.newClass
  have sb := PySem.sub_set_self
  obtain ⟨hp, g, d, tk, os⟩ := s; dsimp only
  wp_walk
  refine wpAny_askSetting (wpAny_pure ?_); dsimp only; simp only [newObj]
  exact wpAny_bind (wpAny_alloc (wpAny_pure (wpAny_pure h)))
end
end L2
namespace L2
open PySem PySem.Spec PyProof.Rows
def addU (l : List Str) (x : Str) : List Str := if x ∈ l then l else l ++ [x]
def uniq (xs : List Str) : List Str := xs.foldl addU []
theorem uniq_snoc (xs : List Str) (x : Str) : uniq (xs ++ [x]) = addU (uniq xs) x := by unfold uniq; rw [List.foldl_append]; rfl
theorem mem_addU {l : List Str} {x y : Str} : y ∈ addU l x ↔ y ∈ l ∨ y = x := by
  unfold addU
  split
  · constructor
    · exact Or.inl
    · rintro (h | rfl)
      · exact h
      · assumption
  · simp
theorem nodup_addU {l : List Str} {x : Str} (h : l.Nodup) : (addU l x).Nodup := by
  unfold addU
  split
  · exact h
  · rename_i hx
    rw [List.nodup_append]
    refine ⟨h, by simp, fun a ha b hb => ?_⟩
    rw [List.mem_singleton.mp hb]
    rintro rfl
    exact hx ha
theorem uniq_facts (xs : List Str) : (uniq xs).Nodup ∧ (∀ y, y ∈ uniq xs ↔ y ∈ xs) ∧ (uniq xs).length ≤ xs.length := by
  have all : ∀ (ys acc : List Str), acc.Nodup → (ys.foldl addU acc).Nodup ∧ (∀ y, y ∈ ys.foldl addU acc ↔ y ∈ acc ∨ y ∈ ys) ∧ (ys.foldl addU acc).length ≤ acc.length + ys.length := by
    intro ys
    induction ys with
    | nil => intro acc h; exact ⟨h, by simp, Nat.le_refl _⟩
    | cons z r ih =>
      intro acc h
      obtain ⟨h1, h2, h3⟩ := ih (addU acc z) (nodup_addU h)
      refine ⟨h1, fun y => ?_, ?_⟩
      · rw [List.foldl_cons, h2, mem_addU, List.mem_cons]
        constructor
        · rintro ((a | a) | a)
          · exact .inl a
          · exact .inr (.inl a)
          · exact .inr (.inr a)
        · rintro (a | a | a)
          · exact .inl (.inl a)
          · exact .inl (.inr a)
          · exact .inr a
      · rw [List.foldl_cons, List.length_cons]
        have : (addU acc z).length ≤ acc.length + 1 := by unfold addU; split <;> simp
        omega
  have h := all xs [] List.nodup_nil
  refine ⟨h.1, fun y => ?_, ?_⟩
  · show y ∈ xs.foldl addU [] ↔ _
    simpa using h.2.1 y
  · show (xs.foldl addU []).length ≤ _
    simpa using h.2.2
theorem uniq_nodup : ∀ {xs : List Str}, xs.Nodup → uniq xs = xs := by
  intro xs h
  have all : ∀ (ys acc : List Str), (acc ++ ys).Nodup → ys.foldl addU acc = acc ++ ys := by
    intro ys
    induction ys with
    | nil => intro acc _; simp
    | cons z r ih =>
      intro acc hn
      have hz : z ∉ acc := fun m => by
        rw [List.nodup_append] at hn
        exact hn.2.2 z m z List.mem_cons_self rfl
      rw [List.foldl_cons, show addU acc z = acc ++ [z] from by unfold addU; rw [if_neg hz], ih _ (by rw [List.append_assoc]; exact hn), List.append_assoc]
      rfl
  have := all xs [] (by simpa using h)
  simpa [uniq] using this
section
variable {prog : Program} {w : World} {A : Around} {R : Result → Shared → Prop} {I : Addr} {wr fp : List Addr} {G : Array GenState → Array GenState → Prop} {n : Nat} {P : Nat → Value → Prop} {St : Nat → Shared → Prop}
theorem set_loop (W : WalksS prog w A.in1 I fp wr G n P St) (p : Addr) (hp : p ∉ fp) (xs : List Str) (hn : xs.length = n) (hval : ∀ i v, P i v → ∃ x t, xs[i]? = some x ∧ v = .str x t) (hb : n + 1 < scanBound) :
    ∀ (j i : Nat) (s : Shared), i + j = n → St i s → SetX prog w s.heap p (fun y => decide (y ∈ uniq (xs.take i))) (uniq (xs.take i)).length →
      (∀ s', Moved (p :: wr) G s s' → SetX prog w s'.heap p (fun y => decide (y ∈ uniq xs)) (uniq xs).length → R (.ok (.ret .none)) s') →
      codeAny (model prog w) A (.builtin "set.update.loop" ⟨[.ref p, .ref I], []⟩) R s := by
  have hpw : p ∉ wr := fun z => hp (W.sub _ z)
  have up : ∀ b ∈ wr, b ∈ p :: wr := fun b z => List.mem_cons_of_mem _ z
  have stays : ∀ {s s' : Shared} {S : Str → Bool} {m : Nat}, Moved wr G s s' → SetX prog w s.heap p S m → SetX prog w s'.heap p S m := fun mv z => by
    obtain ⟨o, es, ep, t, ho, q⟩ := z
    exact ⟨o, es, ep, t, mv.heap p _ hpw ho, q⟩
  intro j
  induction j with
  | zero =>
    intro i s hij hst hS hR
    have ei : i = n := by omega
    subst ei
    refine codeAny_builtin PyProof.Rows.F.entry_set_update_loop ?_
    rw [Around.under_plainId PyProof.Rows.F.plain_set_update_loop _]
    refine (show wpAny _ A.in1 (pyNext (.ref I) >>= _) _ _ s from wpAny_bind (W.done s _ _ hst fun s' mv => ?_))
    refine wpAny_pure (hR s' (mv.mono up) ?_)
    have := stays mv hS
    rw [List.take_of_length_le (Nat.le_of_eq hn)] at this
    exact this
  | succ j ih =>
    intro i s hij hst hS hR
    refine codeAny_builtin PyProof.Rows.F.entry_set_update_loop ?_
    rw [Around.under_plainId PyProof.Rows.F.plain_set_update_loop _]
    refine (show wpAny _ A.in1 (pyNext (.ref I) >>= _) _ _ s from wpAny_bind (W.item i s _ _ (by omega) hst fun v s' hP hst' mv => ?_))
    obtain ⟨x, t, hx, rfl⟩ := hval i v hP
    show wpAny _ A.in1 (holding [Value.str x t] (setAdd p (.str x t)) >>= _) _ _ s'
    refine wpAny_bind (wpAny_holding ?_); unfold setAdd
    refine wpAny_holding (wpAny_bind ((strKind prog w).pyHash (k := x) (by show Value.isStrOf x (.str x t) = true; simp [Value.isStrOf]) ?_))
    have few : (uniq (xs.take i)).length ≤ i := Nat.le_trans (uniq_facts _).2.2 (by rw [List.length_take]; omega)
    refine addX (s := { s' with toks := s'.toks + 1 }) (show SetX prog w s'.heap p _ _ from stays mv hS) (by omega) fun h' sb hS2 => ?_
    have et : xs.take (i + 1) = xs.take i ++ [x] := by rw [List.take_add_one, hx]; rfl
    have hS3 : SetX prog w h' p (fun y => decide (y ∈ uniq (xs.take (i + 1)))) (uniq (xs.take (i + 1))).length := by
      refine SetX.congr hS2 (fun y => ?_) ?_
      · rw [et, uniq_snoc]
        by_cases h1 : y ∈ uniq (xs.take i)
        · simp [h1, mem_addU]
        · by_cases h2 : y = x
          · simp [h1, h2, mem_addU]
          · simp [h1, h2, mem_addU]
      · rw [et, uniq_snoc]
        by_cases h1 : x ∈ uniq (xs.take i)
        · rw [show addU (uniq (xs.take i)) x = uniq (xs.take i) from by unfold addU; rw [if_pos h1]]; simp [h1]
        · rw [show addU (uniq (xs.take i)) x = uniq (xs.take i) ++ [x] from by unfold addU; rw [if_neg h1]]; simp [h1]
    refine wpAny_pure ⟨plainId_quiet PyProof.Rows.F.plain_set_update_loop _, ih (i + 1) _ (by omega) (W.frame _ s' _ _ hst' (Nat.le_succ _) fun b hbm o e => ?_) hS3 fun s'' mv2 hS'' => ?_⟩
    · rw [sb.2 b (fun z : b = p => hp (by rw [← z]; exact hbm))]; exact e
    · refine hR s'' (Moved.trans W.gtrans ((mv.mono up).then_heap (Nat.le_succ _) fun b o hbm e => ?_) mv2) hS''
      rw [sb.2 b (fun z : b = p => hbm (by rw [z]; exact List.mem_cons_self))]; exact e
end
section
variable {prog : Program} {w : World} {A : Around} {s : Shared} {E : Value → Shared → Prop}
set_option maxHeartbeats 8000000 in
theorem set_from {a : Addr} {T : String} {Q : Value → Shared → Prop} {oc : Obj} (hh : A.handled = none) (hT : T = "list" ∨ T = "tuple") (ho : s.heap.get? a = some oc) (hc : oc.cls = .type T) {its : Array Value} {k : Nat} (hd : oc.data = .seq its k)
    (xs : List Str) (hx : Vals (xs.map V.str) its.toList) (hb : its.size + 1 < scanBound)
    (h : ∀ (h' : Heap) (tk : Nat), SetX prog w h' s.heap.objs.size (fun y => decide (y ∈ uniq xs)) (uniq xs).length → (∀ b o, b < s.heap.objs.size → s.heap.get? b = some o → h'.get? b = some o) → Q (.ref s.heap.objs.size) { s with heap := h', toks := tk }) :
    wpAny (model prog w) A (call (.type "set") [.ref a]) Q E s := by
  obtain ⟨cm, mrest, m0⟩ := F.called_set.mro
  have m1 := F.called_set.made
  have m2 := F.called_set.sub
  refine wpAny_call (codeAny_of_tree (show wpAny _ _ (callAny (.type "set") _) _ _ _ from wpAny_pure ⟨Code.quiet_builtin _ (by decide +kernel), codeAny_builtin F.entry_type_call ?_⟩))
  rw [Around.under_plain (weight_type_call_type "set" [.ref a] []) rfl]
  have m3 := F.called_set.notType
  have m4 := F.called_set.canCreate
  have m5 := PySem.F.typeCall_set_1 (.ref a)
  repeat any_goals (first | assumption | wp_step)
  refine codeAny_mono (newX (.ref a) (E := E) (Q1 := fun ob s1 => ∃ led : Bool, led = !(w.params.followText "set-order") ∧ ob = .ref s.heap.objs.size ∧ s1 = { s with heap := s.heap.push { cls := .type "set", dict := none, data := .set #[] 0 (.fresh 0 0 led) } }) ⟨_, rfl, rfl, rfl⟩) fun r s1 hr => ?_
  cases r with
  | error e => exact hr
  | ok fl =>
    cases fl with
    | ret ob =>
      obtain ⟨led, hled, rfl, rfl⟩ := hr
      have g0 : (s.heap.push { cls := .type "set", dict := none, data := .set #[] 0 (.fresh 0 0 led) }).get? s.heap.objs.size = some { cls := .type "set", dict := none, data := .set #[] 0 (.fresh 0 0 led) } := Heap.get?_push_size _ rfl
      have g1 : Shared.TypeIs { s with heap := s.heap.push { cls := .type "set", dict := none, data := .set #[] 0 (.fresh 0 0 led) } } (.ref s.heap.objs.size) "set" := ⟨_, g0, rfl⟩
      have m6 := F.called_set.init.lookup
      have m7 := F.called_set.init.bind (.ref s.heap.objs.size)
      repeat any_goals (first | assumption | wp_step)
      refine codeAny_mono (codeAny_call_builtin (R := wants (fun r s2 => r = .none ∧ ∃ h' tk, s2 = { s with heap := h', toks := tk } ∧ SetX prog w h' s.heap.objs.size (fun y => decide (y ∈ uniq xs)) (uniq xs).length ∧
          (∀ b o, b < s.heap.objs.size → s.heap.get? b = some o → h'.get? b = some o)) E) F.called_set.init.plain F.entry_set_init (check_set_init_1 g1 ?_)) fun r2 s2 hr2 => ?_
      · have halt : a < s.heap.objs.size := Heap.lt_size ho
        obtain ⟨o1, o2, o3, o4⟩ := oc
        simp only at hc hd
        subst hc hd
        have g2 : (s.heap.push { cls := .type "set", dict := none, data := .set #[] 0 (.fresh 0 0 led) }).get? a = some { cls := .type T, dict := o2, data := .seq its k, slots := o4 } := Heap.get?_push_of_some _ ho
        have h3 : A.in1.in1.in1.handled = none := by simp [hh]
        have neI : a ≠ (s.heap.push { cls := .type "set", dict := none, data := .set #[] 0 (.fresh 0 0 led) }).objs.size := by
          rw [Heap.size_push]
          exact Nat.ne_of_lt (Nat.lt_succ_of_lt halt)
        have nf : s.heap.objs.size ∉ [(s.heap.push { cls := .type "set", dict := none, data := .set #[] 0 (.fresh 0 0 led) }).objs.size, a] := by
          rw [Heap.size_push]
          simp only [List.mem_cons, List.not_mem_nil, or_false, not_or]
          exact ⟨Nat.ne_of_lt (Nat.lt_succ_self _), Nat.ne_of_gt halt⟩
        have hlen : xs.length = its.size := by
          have := hx.length
          rw [List.length_map] at this
          simpa using this
        have hval : ∀ (i : Nat) (v : Value), its[i]? = some v → ∃ x t, xs[i]? = some x ∧ v = .str x t := fun i v hv => by
          have hi : i < its.size := (Array.getElem?_eq_some_iff.mp hv).1
          have hxi : (xs.map V.str)[i]? = some (.str xs[i]) := by rw [List.getElem?_map, List.getElem?_eq_getElem (by omega)]; rfl
          obtain ⟨u, hu, ru⟩ := hx.get hxi
          rw [Array.getElem?_toList, hv] at hu
          cases hu
          obtain ⟨t, e⟩ := (show ∃ t, v = Value.str xs[i] t from ru)
          exact ⟨xs[i], t, List.getElem?_eq_getElem (by omega), e⟩
        have s0 : ∀ {o : Obj}, SetX prog w ((s.heap.push { cls := .type "set", dict := none, data := .set #[] 0 (.fresh 0 0 led) }).push o) s.heap.objs.size (fun y => decide (y ∈ uniq (xs.take 0))) (uniq (xs.take 0)).length := fun {o} => by
          exact ⟨_, #[], 0, _, Heap.get?_push_of_some _ g0, ⟨rfl, rfl, rfl⟩, rfl, ⟨fun e he => by simp at he, fun k => by simp [uniq], by decide, rfl, rfl⟩, hled, fun z => absurd rfl z⟩
        have fin : ∀ (o : Obj) (s' : Shared), Moved [s.heap.objs.size, (s.heap.push { cls := .type "set", dict := none, data := .set #[] 0 (.fresh 0 0 led) }).objs.size] (fun x y => y = x) { s with heap := (s.heap.push { cls := .type "set", dict := none, data := .set #[] 0 (.fresh 0 0 led) }).push o } s' →
            SetX prog w s'.heap s.heap.objs.size (fun y => decide (y ∈ uniq xs)) (uniq xs).length →
            ∃ h' tk, s' = { s with heap := h', toks := tk } ∧ SetX prog w h' s.heap.objs.size (fun y => decide (y ∈ uniq xs)) (uniq xs).length ∧ (∀ b o, b < s.heap.objs.size → s.heap.get? b = some o → h'.get? b = some o) := by
          intro o s' mv hS'
          obtain ⟨h', ge, dr, tk', oz⟩ := s'
          have e1 : ge = s.gens := mv.gens
          have e2 : dr = s.drawn := mv.drawn
          have e3 : oz = s.os := mv.os
          subst e1 e2 e3
          refine ⟨h', tk', rfl, hS', fun b o' hb' e => mv.heap b o' ?_ (Heap.get?_push_of_some _ (Heap.get?_push_of_some _ e))⟩
          rw [Heap.size_push]
          simp only [List.mem_cons, List.not_mem_nil, or_false, not_or]
          exact ⟨Nat.ne_of_lt hb', Nat.ne_of_lt (Nat.lt_succ_of_lt hb')⟩
        rcases hT with rfl | rfl
        · have n1 := PySem.F.sub_list_set
          have n2 := PySem.F.sub_list_frozenset
          have n3 : (Value.type "list" == Value.type "dict") = false := by decide
          have l1 : (s.heap.push { cls := .type "set", dict := none, data := .set #[] 0 (.fresh 0 0 led) }).IsList a its := ⟨_, g2, rfl, k, rfl⟩
          unfold Builtin.«set.__init__» noKeywords Builtin.Frozenset.updateFrom; generalize hPI : pyIter = PI
          wp_walk
          subst hPI
          refine wpAny_pyIter_list l1 (wpAny_bind (wpAny_runValue ?_))
          refine set_loop ((Walks.list h3 _ a neI its).toS) s.heap.objs.size nf xs hlen hval hb its.size 0 _ (by omega) ⟨⟨_, Heap.get?_push_size _ rfl, rfl, rfl⟩, l1.push _⟩ s0 ?_
          intro s' mv hS'
          obtain ⟨h', tk, rfl, z1, z2⟩ := fin _ s' mv hS'
          exact wpAny_pure (show wpAny _ _ (ret Value.none) _ _ _ from wpAny_pure ⟨rfl, h', tk, rfl, z1, z2⟩)
        · have n1 := PySem.F.sub_tuple_set
          have n2 := PySem.F.sub_tuple_frozenset
          have n3 : (Value.type "tuple" == Value.type "dict") = false := by decide
          have l1 : (s.heap.push { cls := .type "set", dict := none, data := .set #[] 0 (.fresh 0 0 led) }).IsTuple a its := ⟨_, g2, rfl, k, rfl⟩
          unfold Builtin.«set.__init__» noKeywords Builtin.Frozenset.updateFrom; generalize hPI : pyIter = PI
          wp_walk
          subst hPI
          refine wpAny_pyIter_tuple l1 (wpAny_bind (wpAny_runValue ?_))
          refine set_loop ((Walks.tuple h3 _ a neI its).toS) s.heap.objs.size nf xs hlen hval hb its.size 0 _ (by omega) ⟨⟨_, Heap.get?_push_size _ rfl, rfl, rfl⟩, ?_⟩ s0 ?_
          · exact ⟨_, Heap.get?_push_of_some _ g2, rfl, k, rfl⟩
          intro s' mv hS'
          obtain ⟨h', tk, rfl, z1, z2⟩ := fin _ s' mv hS'
          exact wpAny_pure (show wpAny _ _ (ret Value.none) _ _ _ from wpAny_pure ⟨rfl, h', tk, rfl, z1, z2⟩)
      · cases r2 with
        | error e => exact hr2
        | ok f2 =>
          cases f2 with
          | ret u =>
            obtain ⟨rfl, h', tk, rfl, z1, z2⟩ := hr2
            repeat any_goals (first | assumption | wp_step)
            exact h h' tk z1 z2
          | next => exact hr2.elim
          | brk => exact hr2.elim
          | cont => exact hr2.elim
    | next => exact hr.elim
    | brk => exact hr.elim
    | cont => exact hr.elim
end
end L2
namespace L2
open PySem PySem.Spec PyProof.Rows
def setO (P : Program) (w : World) (p : Addr) (xs : List Str) : HO := .ext fun h => SetX P w h p (fun y => decide (y ∈ uniq xs)) (uniq xs).length
theorem setO_ok {P : Program} {w : World} {H : Hp} {h : Heap} {p : Addr} {xs : List Str} (hS : SetX P w h p (fun y => decide (y ∈ uniq xs)) (uniq xs).length) : ObjOk P w H h p (setO P w p xs) := by
  refine ⟨hS, ?_, fun h1 h2 z k => ?_⟩
  · obtain ⟨o, _, _, _, e, _⟩ := hS
    exact ⟨o, e⟩
  · obtain ⟨o, es, ep, t, e, q⟩ := z
    exact ⟨o, es, ep, t, k o e, q⟩
section
variable {X : Cx}
theorem call_setS (hc : X.calm = true) : CallR X (.type "set") (fun vs H Q => ∃ a xs, vs = [.ref a] ∧ (SqL X.K H a (xs.map V.str) ∨ SqT X.K H a (xs.map V.str)) ∧ xs.length < 4000 ∧ ∀ p H', New H p (setO X.prog X.w p xs) H' → Q (.ref p) H') := by
  intro pins s σ H vs us Q I r h
  obtain ⟨a, xs, rfl, hS, hl, q⟩ := h
  obtain ⟨u, rfl, ru⟩ := vals1 r
  cases ru
  have hh := I.ok.hd hc
  have fin : ∀ (h' : Heap) (tk : Nat), SetX X.prog X.w h' s.heap.objs.size (fun y => decide (y ∈ uniq xs)) (uniq xs).length → (∀ b o, b < s.heap.objs.size → s.heap.get? b = some o → h'.get? b = some o) →
      EP X pins σ Q (.ref s.heap.objs.size) { s with heap := h', toks := tk } := fun h' tk z k =>
    ⟨.ref s.heap.objs.size, upd H s.heap.objs.size (setO X.prog X.w s.heap.objs.size xs), I.laid (fun b u e => k b u (Heap.lt_size e) e) (Nat.le_refl _) (setO_ok z), rfl, q _ _ ⟨I.fresh, rfl⟩⟩
  rcases hS with hS | hS
  · obtain ⟨its, rv, ⟨o, n, e, c, dd, d⟩, z⟩ := I.list hS
    have hsz : its.toArray.size + 1 < scanBound := by
      have := rv.length
      rw [List.length_map] at this
      rw [List.size_toArray]
      unfold scanBound
      omega
    exact set_from hh (.inl rfl) e c d xs (by simpa using rv) hsz fin
  · obtain ⟨its, rv, ⟨o, e, c, n, d⟩, z⟩ := I.tuple hS
    have hsz : its.toArray.size + 1 < scanBound := by
      have := rv.length
      rw [List.length_map] at this
      rw [List.size_toArray]
      unfold scanBound
      omega
    exact set_from hh (.inr rfl) e c d xs (by simpa using rv) hsz fin
end
end L2
namespace L2
open PySem PySem.Spec PyProof.Rows
theorem si_slot : Slot "set_iterator" "__next__" "set_iterator.__next__" := .of (owner := "set_iterator") (n := "__next__") (by rw [typeLookup_type, builtinLookup_eq_fast]; kernel_rfl) (by decide +kernel) (by decide +kernel) (by decide +kernel) (by first | exact .inl (by decide +kernel) | exact .inr (by decide +kernel)) (by rw [isSubtype_type]; kernel_rfl)
theorem si_entry : entryFor table "set_iterator.__next__" = some Builtin.«set_iterator.__next__» := entryFor_of_tree (by kernel_rfl)
theorem si_owner : Manifest.owners.lookup (String.ofList ['r', 'o', 't', 'a', 'r', 'e', 't', 'i', '_', 't', 'e', 's'].reverse) = some Manifest.sig_set_iterator := by kernel_rfl
theorem si_args (a : Value) : argsOk "set_iterator.__next__" ⟨[a], []⟩ := by
  unfold argsOk; rw [signature?_of (id := "set_iterator.__next__") (n := ['_', '_', 't', 'x', 'e', 'n', '_', '_']) (o := ['r', 'o', 't', 'a', 'r', 'e', 't', 'i', '_', 't', 'e', 's']) (by kernel_rfl) si_owner]; kernel_rfl
theorem so_slot : Slot "set" "__iter__" "set.__iter__" := .of (owner := "set") (n := "__iter__") (by rw [typeLookup_type, builtinLookup_eq_fast]; kernel_rfl) (by decide +kernel) (by decide +kernel) (by decide +kernel) (by first | exact .inl (by decide +kernel) | exact .inr (by decide +kernel)) (by rw [isSubtype_type]; kernel_rfl)
theorem so_entry : entryFor table "set.__iter__" = some Builtin.«frozenset.__iter__» := entryFor_alias (id' := "frozenset.__iter__") (by kernel_rfl) rfl (by decide +kernel) (by kernel_rfl)
theorem so_args (a : Value) : argsOk "set.__iter__" ⟨[a], []⟩ := by
  unfold argsOk; rw [signature?_of (id := "set.__iter__") (n := ['_', '_', 'r', 'e', 't', 'i', '_', '_']) (o := ['t', 'e', 's']) (by kernel_rfl) PySem.F.owner_set]; kernel_rfl
def sIt (fst : Value) (i : Nat) (a : Addr) (n ep : Nat) : Obj := { cls := .type "set_iterator", dict := none, data := .fields #[fst, rawInt i, .ref a, rawInt n, rawInt ep], slots := #[] }
section
variable {prog : Program} {w : World} {A : Around} {E : Value → Shared → Prop} {s : Shared} {I a : Addr} {i n ep : Nat} {o : Obj} {es : Array (Int × Value)} {t : SetTable} {Q : Option Value → Shared → Prop}
theorem si_item1 {sl nx : Nat} {x : Value} (hI : s.heap.get? I = some (sIt (rawInt sl) i a n ep)) (ho : s.heap.get? a = some o) (hd : o.data = .set es ep t) (hf : t.fits es.size = true) (hn : es.size = n)
    (hx : ∀ (E' : Value → Shared → Prop) (Q' : Option (Value × Nat) → Shared → Prop), Q' (some (x, nx)) s → wpAny (model prog w) A.in1 (setNext a sl i ep) Q' E' s)
    (hQ : ∀ h', h'.get? I = some (sIt (rawInt nx) (i + 1) a n ep) → Heap.SameBut I s.heap h' → Q (some x) { s with heap := h' }) : wpAny (model prog w) A (pyNext (.ref I)) Q E s := by
  unfold pyNext
  refine wpAny_bind (wpAny_attempt (wpAny_callSpecial?_slot (name := Str.ofString "__next__") ⟨_, hI, rfl⟩ si_slot (wpAny_call_entry si_slot ⟨_, hI, rfl⟩ si_entry ?_ (si_args _))))
  unfold Builtin.«set_iterator.__next__»
  refine wpAny_bind (wpAny_pure ?_); refine wpAny_bind (wpAny_fieldsOf hI rfl ?_)
  dsimp only [rawInt]
  refine wpAny_bind (wpAny_setEntries_of ho hd hf ?_)
  rw [if_neg (by rw [hn]; simp)]
  refine wpAny_bind (hx _ _ ?_)
  refine wpAny_bind (wpAny_setField hI rfl (by simp) ?_)
  have g1 := Heap.get?_update_self (Obj.mapFields (·.setIfInBounds 0 (rawInt nx))) hI rfl
  refine wpAny_bind (wpAny_setField g1 rfl (by simp [Obj.mapFields, sIt]) ?_)
  have g2 := Heap.get?_update_self (Obj.mapFields (·.setIfInBounds 1 (rawInt ((i : Int) + 1)))) g1 rfl
  refine wpAny_pure ⟨_, rfl, wpAny_pure (hQ _ ?_ ((Heap.SameBut.update ..).trans (Heap.SameBut.update ..)))⟩
  exact g2
theorem si_done1 {sl : Nat} (hh : A.handled = none) (hI : s.heap.get? I = some (sIt (rawInt sl) i a n ep)) (ho : s.heap.get? a = some o) (hd : o.data = .set es ep t) (hf : t.fits es.size = true) (hn : es.size = n)
    (hx : ∀ (E' : Value → Shared → Prop) (Q' : Option (Value × Nat) → Shared → Prop), Q' none s → wpAny (model prog w) A.in1 (setNext a sl i ep) Q' E' s)
    (hQ : ∀ h', Heap.ExtBut I s.heap h' → Q none { s with heap := h' }) : wpAny (model prog w) A (pyNext (.ref I)) Q E s := by
  unfold pyNext
  refine wpAny_bind (wpAny_attempt (wpAny_callSpecial?_slot (name := Str.ofString "__next__") ⟨_, hI, rfl⟩ si_slot (wpAny_call_entry si_slot ⟨_, hI, rfl⟩ si_entry ?_ (si_args _))))
  unfold Builtin.«set_iterator.__next__»
  refine wpAny_bind (wpAny_pure ?_); refine wpAny_bind (wpAny_fieldsOf hI rfl ?_)
  dsimp only [rawInt]
  refine wpAny_bind (wpAny_setEntries_of ho hd hf ?_)
  rw [if_neg (by rw [hn]; simp)]
  refine wpAny_bind (hx _ _ ?_)
  refine wpAny_bind (wpAny_setField hI rfl (by simp) ?_)
  refine wpAny_bind ?_
  simp only [newExc, newTuple]
  refine wpAny_bind (wpAny_newObj_type ?_ (by size_fits)); refine wpAny_bind (m := firstArgMember _ _) (wpAny_of_eq (a := Value.none) (by first | rfl | (simp only [firstArgMember]; rfl)) ?_)
  refine wpAny_newObj_type ?_ (by size_fits); simp only [raiseNew]
  refine wpAny_bind (wpAny_handled ?_); rw [show A.in1.handled = none from hh]
  refine wpAny_bind (wpAny_pure (wpAny_throw ?_)); refine wpAny_bind (wpAny_isInstance (T := "StopIteration") (b := true) ⟨_, Heap.get?_push_size _ rfl, rfl⟩ isSubtype_stop ?_); exact wpAny_pure (hQ _ (((Heap.SameBut.update ..).extBut.push _).push _))
theorem si_item2 {T : Addr} {oT : Obj} {ps : Array Value} {kT p : Nat} {x : Value} {hv : Int} {tp : Tok} (hI : s.heap.get? I = some (sIt (.ref T) i a n ep)) (ho : s.heap.get? a = some o) (hd : o.data = .set es ep t) (hf : t.fits es.size = true) (hn : es.size = n)
    (hT : s.heap.get? T = some oT) (hTd : oT.data = .seq ps kT) (hp : ps[i]? = some (.int p tp)) (hx : es[p]? = some (hv, x))
    (hQ : ∀ h', h'.get? I = some (sIt (.ref T) (i + 1) a n ep) → Heap.SameBut I s.heap h' → Q (some x) { s with heap := h' }) : wpAny (model prog w) A (pyNext (.ref I)) Q E s := by
  unfold pyNext
  refine wpAny_bind (wpAny_attempt (wpAny_callSpecial?_slot (name := Str.ofString "__next__") ⟨_, hI, rfl⟩ si_slot (wpAny_call_entry si_slot ⟨_, hI, rfl⟩ si_entry ?_ (si_args _))))
  unfold Builtin.«set_iterator.__next__»
  refine wpAny_bind (wpAny_pure ?_); refine wpAny_bind (wpAny_fieldsOf hI rfl ?_)
  dsimp only [rawInt]
  refine wpAny_bind (wpAny_setEntries_of ho hd hf ?_)
  rw [if_neg (by rw [hn]; simp)]
  refine wpAny_bind ?_
  unfold seqItems?
  refine wpAny_bind (wpAny_load hT ?_)
  rw [hTd]
  refine wpAny_pure ?_
  dsimp only
  rw [show (Int.toNat (i : Int)) = i from Int.toNat_natCast i, hp]
  dsimp only
  refine wpAny_bind ?_
  unfold setNextDrawn
  refine wpAny_bind (wpAny_setState_of ho hd hf ?_); dsimp only
  rw [if_neg (by simp)]
  rw [show (Int.toNat (p : Int)) = p from Int.toNat_natCast p, hx]
  refine wpAny_pure ?_
  refine wpAny_bind (wpAny_setField hI rfl (by simp) ?_)
  have g1 := Heap.get?_update_self (Obj.mapFields (·.setIfInBounds 1 (rawInt ((i : Int) + 1)))) hI rfl
  refine wpAny_pure ⟨_, rfl, wpAny_pure (hQ _ ?_ (Heap.SameBut.update ..))⟩
  exact g1
theorem si_done2 {T : Addr} {oT : Obj} {ps : Array Value} {kT : Nat} (hh : A.handled = none) (hI : s.heap.get? I = some (sIt (.ref T) i a n ep)) (ho : s.heap.get? a = some o) (hd : o.data = .set es ep t) (hf : t.fits es.size = true) (hn : es.size = n)
    (hT : s.heap.get? T = some oT) (hTd : oT.data = .seq ps kT) (hp : ps[i]? = none)
    (hQ : ∀ h', Heap.ExtBut I s.heap h' → Q none { s with heap := h' }) : wpAny (model prog w) A (pyNext (.ref I)) Q E s := by
  unfold pyNext
  refine wpAny_bind (wpAny_attempt (wpAny_callSpecial?_slot (name := Str.ofString "__next__") ⟨_, hI, rfl⟩ si_slot (wpAny_call_entry si_slot ⟨_, hI, rfl⟩ si_entry ?_ (si_args _))))
  unfold Builtin.«set_iterator.__next__»
  refine wpAny_bind (wpAny_pure ?_); refine wpAny_bind (wpAny_fieldsOf hI rfl ?_)
  dsimp only [rawInt]
  refine wpAny_bind (wpAny_setEntries_of ho hd hf ?_)
  rw [if_neg (by rw [hn]; simp)]
  refine wpAny_bind ?_
  unfold seqItems?
  refine wpAny_bind (wpAny_load hT ?_)
  rw [hTd]
  refine wpAny_pure ?_
  dsimp only
  rw [show (Int.toNat (i : Int)) = i from Int.toNat_natCast i, hp]
  dsimp only
  refine wpAny_bind (wpAny_setField hI rfl (by simp) ?_)
  have g1 := Heap.get?_update_self (Obj.mapFields (·.setIfInBounds 0 (rawInt 0))) hI rfl
  refine wpAny_bind (wpAny_setField g1 rfl (by simp [Obj.mapFields, sIt]) ?_)
  refine wpAny_bind ?_
  simp only [newExc, newTuple]
  refine wpAny_bind (wpAny_newObj_type ?_ (by size_fits)); refine wpAny_bind (m := firstArgMember _ _) (wpAny_of_eq (a := Value.none) (by first | rfl | (simp only [firstArgMember]; rfl)) ?_)
  refine wpAny_newObj_type ?_ (by size_fits); simp only [raiseNew]
  refine wpAny_bind (wpAny_handled ?_); rw [show A.in1.handled = none from hh]
  refine wpAny_bind (wpAny_pure (wpAny_throw ?_)); refine wpAny_bind (wpAny_isInstance (T := "StopIteration") (b := true) ⟨_, Heap.get?_push_size _ rfl, rfl⟩ isSubtype_stop ?_)
  exact wpAny_pure (hQ _ ((((Heap.SameBut.update ..).trans (Heap.SameBut.update ..)).extBut.push _).push _))
end
end L2
namespace L2
open PySem PySem.Spec PyProof.Rows
theorem ss_slot : Slot "set_iterator" "__iter__" "set_iterator.__iter__" := .of (owner := "set_iterator") (n := "__iter__") (by rw [typeLookup_type, builtinLookup_eq_fast]; kernel_rfl) (by decide +kernel) (by decide +kernel) (by decide +kernel) (by first | exact .inl (by decide +kernel) | exact .inr (by decide +kernel)) (by rw [isSubtype_type]; kernel_rfl)
theorem ss_entry : entryFor table "set_iterator.__iter__" = some Builtin.«dict_keyiterator.__iter__» := entryFor_alias (id' := "dict_keyiterator.__iter__") (by kernel_rfl) rfl (by decide +kernel) (by kernel_rfl)
theorem ss_args (a : Value) : argsOk "set_iterator.__iter__" ⟨[a], []⟩ := by
  unfold argsOk; rw [signature?_of (id := "set_iterator.__iter__") (n := ['_', '_', 'r', 'e', 't', 'i', '_', '_']) (o := ['r', 'o', 't', 'a', 'r', 'e', 't', 'i', '_', 't', 'e', 's']) (by kernel_rfl) si_owner]; kernel_rfl
section
variable {prog : Program} {w : World} {A : Around} {E : Value → Shared → Prop} {s : Shared} {I a : Addr} {i n ep : Nat} {o : Obj} {es : Array (Int × Value)} {t : SetTable}
theorem si_self {fst : Value} {Q : Value → Shared → Prop} (hI : s.heap.get? I = some (sIt fst i a n ep)) (h : Q (.ref I) s) : wpAny (model prog w) A (pyIter (.ref I)) Q E s := by
  refine wpAny_pyIter_slot ⟨_, hI, rfl⟩ ss_slot (wpAny_call_entry ss_slot ⟨_, hI, rfl⟩ ss_entry ?_ (ss_args _))
  show wpAny _ _ (ret (.ref I)) _ _ s
  exact wpAny_pure ⟨_, rfl, "set_iterator", _, ⟨_, hI, rfl⟩, si_slot.lookup, h⟩
theorem walkA (hh : A.handled = none) (hne : a ≠ I) (hd : o.data = .set es ep t) (hf : t.fits es.size = true) (ord : List Value) (hn : es.size = ord.length) (sl : Nat → Nat)
    (step : ∀ (i : Nat) (x : Value) (s : Shared) (E' : Value → Shared → Prop) (Q' : Option (Value × Nat) → Shared → Prop), s.heap.get? a = some o → ord[i]? = some x → Q' (some (x, sl (i + 1))) s → wpAny (model prog w) A.in1 (setNext a (sl i) i ep) Q' E' s)
    (stop : ∀ (s : Shared) (E' : Value → Shared → Prop) (Q' : Option (Value × Nat) → Shared → Prop), s.heap.get? a = some o → Q' none s → wpAny (model prog w) A.in1 (setNext a (sl ord.length) ord.length ep) Q' E' s) :
    Walks prog w A I [I, a] [I] ord.length (fun i v => ord[i]? = some v) (fun i h => h.get? I = some (sIt (rawInt (sl i)) i a ord.length ep) ∧ h.get? a = some o) where
  sub := fun b hb => (List.mem_singleton.mp hb) ▸ List.mem_cons_self
  frame := fun _ _ _ st k => ⟨k I (by simp) _ st.1, k a (by simp) _ st.2⟩
  item := fun i s R E hi st hQ => by
    refine si_item1 st.1 st.2 hd hf hn (fun E' Q' z => step i ord[i] s E' Q' st.2 (List.getElem?_eq_getElem hi) z) fun h' g sb => ?_
    exact hQ _ h' s.toks (List.getElem?_eq_getElem hi) ⟨g, (sb.2 a hne).trans st.2⟩ fun b u hb e => (sb.2 b (fun z => hb (by simp [z]))).trans e
  done := fun s Q E st hQ => si_done1 hh st.1 st.2 hd hf hn (fun E' Q' z => stop s E' Q' st.2 z) fun h' x => hQ h' s.toks fun b u hb e => x b u (fun z => hb (by simp [z])) e
  self := fun _ _ _ _ st hQ => si_self st.1 hQ
theorem walkB {T : Addr} {oT : Obj} {ps : Array Value} {kT : Nat} (hh : A.handled = none) (hne : a ≠ I) (hT : T ≠ I) (hd : o.data = .set es ep t) (hf : t.fits es.size = true) (ord : List Value) (hn : es.size = ord.length) (hTd : oT.data = .seq ps kT)
    (hps : ps.size = ord.length) (step : ∀ (i : Nat) (x : Value), ord[i]? = some x → ∃ (p : Nat) (tp : Tok) (hv : Int), ps[i]? = some (.int p tp) ∧ es[p]? = some (hv, x)) :
    Walks prog w A I [I, a, T] [I] ord.length (fun i v => ord[i]? = some v) (fun i h => h.get? I = some (sIt (.ref T) i a ord.length ep) ∧ h.get? a = some o ∧ h.get? T = some oT) where
  sub := fun b hb => (List.mem_singleton.mp hb) ▸ List.mem_cons_self
  frame := fun _ _ _ st k => ⟨k I (by simp) _ st.1, k a (by simp) _ st.2.1, k T (by simp) _ st.2.2⟩
  item := fun i s R E hi st hQ => by
    obtain ⟨p, tp, hv, e1, e2⟩ := step i ord[i] (List.getElem?_eq_getElem hi)
    refine si_item2 st.1 st.2.1 hd hf hn st.2.2 hTd e1 e2 fun h' g sb => ?_
    exact hQ _ h' s.toks (List.getElem?_eq_getElem hi) ⟨g, (sb.2 a hne).trans st.2.1, (sb.2 T hT).trans st.2.2⟩ fun b u hb e => (sb.2 b (fun z => hb (by simp [z]))).trans e
  done := fun s Q E st hQ => si_done2 hh st.1 st.2.1 hd hf hn st.2.2 hTd (by rw [← hps]; simp) fun h' x => hQ h' s.toks fun b u hb e => x b u (fun z => hb (by simp [z])) e
  self := fun _ _ _ _ st hQ => si_self st.1 hQ
theorem choose_wp {src : Source} {k : Nat} {Q : Nat → Shared → Prop} (hk : k ≠ 0) (h : ∀ j d', j < k → Q j { s with drawn := d' }) : wpAny (model prog w) A (choose src k) Q E s :=
  fun Γ p _ => by
    unfold choose
    rw [Sem.wp_choose]
    exact ⟨hk, h _ _ (Nat.mod_lt _ (Nat.pos_of_ne_zero hk))⟩
theorem perm_erase {α : Type} : ∀ {xs : List α} {j : Nat} {x : α}, xs[j]? = some x → (x :: xs.eraseIdx j).Perm xs
  | [], _, _, e => by simp at e
  | y :: r, 0, x, e => by simp at e; subst e; exact .refl _
  | y :: r, j + 1, x, e => by
    rw [List.getElem?_cons_succ] at e
    rw [List.eraseIdx_cons_succ]
    exact (List.Perm.swap _ _ _).trans ((perm_erase e).cons _)
theorem draws_wp {α : Type} : ∀ (k : Nat) (xs : List α) (s : Shared) (Q : List α → Shared → Prop), xs.length ≤ k → (∀ ys d', ys.Perm xs → Q ys { s with drawn := d' }) → wpAny (model prog w) A (drawOrder k xs) Q E s
  | 0, [], s, Q, _, h => by unfold drawOrder; exact wpAny_pure (h [] s.drawn (.refl _))
  | _ + 1, [], s, Q, _, h => by unfold drawOrder; exact wpAny_pure (h [] s.drawn (.refl _))
  | 0, _ :: _, _, _, z, _ => absurd z (by simp)
  | k + 1, y :: r, s, Q, z, h => by
    unfold drawOrder
    refine wpAny_bind (choose_wp (by simp) fun j d' hj => ?_)
    rw [List.getElem?_eq_getElem hj]
    dsimp only
    have l : ((y :: r).eraseIdx j).length ≤ k := by rw [List.length_eraseIdx_of_lt hj]; simpa using z
    refine wpAny_bind (draws_wp k _ _ _ l fun ys d'' p => wpAny_pure (h _ d'' ?_))
    exact (p.cons _).trans (perm_erase (List.getElem?_eq_getElem hj))
theorem pick_perm {α : Type} (nx : Nat → Nat) (xs : Array α) : (pickOrder nx xs).toList.Perm xs.toList := by
  have all : ∀ (f k : Nat) (left : List α) (out : Array α), left.length ≤ f → (pickOrder.go nx f k left out).toList.Perm (out.toList ++ left) := by
    intro f
    induction f with
    | zero =>
      intro k left out z
      have : left = [] := List.length_eq_zero_iff.mp (Nat.le_zero.mp z)
      subst this
      unfold pickOrder.go
      simp
    | succ f ih =>
      intro k left out z
      unfold pickOrder.go
      cases left with
      | nil => simp
      | cons y r =>
        have hj : nx k % (y :: r).length < (y :: r).length := Nat.mod_lt _ (by simp)
        rw [List.getElem?_eq_getElem hj]
        dsimp only
        refine (ih _ _ _ (by rw [List.length_eraseIdx_of_lt hj]; simpa using z)).trans ?_
        rw [Array.toList_push, List.append_assoc]
        exact List.Perm.append_left _ (perm_erase (List.getElem?_eq_getElem hj))
  unfold pickOrder
  have := all xs.size 0 xs.toList #[] (by simp)
  simpa using this
theorem below1 {p : Array Nat} (h : p.size = 1) (j : Nat) : SetTable.below p j = if p.getD 0 j < j then 1 else 0 := by
  unfold SetTable.below
  rw [h]
  unfold SetTable.below.go
  simp only [Nat.zero_lt_one, ↓reduceIte, Nat.zero_add, show (1 / 2 : Nat) = 0 from rfl]
  unfold SetTable.below.go
  rfl
end
end L2
namespace L2
open PySem PySem.Spec PyProof.Rows
section
variable {prog : Program} {w : World} {A : Around} {E : Value → Shared → Prop} {s : Shared} {I a : Addr} {i n ep : Nat} {o : Obj} {es : Array (Int × Value)} {t : SetTable}
theorem byText_wp {Q : Bool → Shared → Prop} (h : Q (w.params.followText "set-order") s) : wpAny (model prog w) A setsByText Q E s := by
  unfold setsByText; exact wpAny_bind (wpAny_askSetting (wpAny_pure h))
theorem next_text {sl : Nat} {Q : Option (Value × Nat) → Shared → Prop} (hb : w.params.followText "set-order" = true) (ho : s.heap.get? a = some o) (hd : o.data = .set es ep t) (hf : t.fits es.size = true)
    (h : Q (((pickOrder (w.params.setOrder a ep) es).toList.map (·.2))[i]?.map fun x => (x, sl)) s) : wpAny (model prog w) A (setNext a sl i ep) Q E s := by
  unfold setNext
  refine wpAny_bind (wpAny_setState_of ho hd hf ?_); refine wpAny_bind (byText_wp ?_)
  rw [hb, if_pos rfl]
  dsimp only
  rw [if_neg (by simp)]
  refine wpAny_bind ?_
  unfold setWalk
  refine wpAny_bind (wpAny_setState_of ho hd hf ?_); refine wpAny_bind (byText_wp ?_)
  rw [hb, if_pos rfl]
  refine wpAny_bind (wpAny_askSetting (wpAny_pure (wpAny_pure ?_)))
  have e : ((pickOrder (w.params.setOrder a ep) es).toList.map (·.2))[i]?.map (fun x => (x, sl)) = ((pickOrder (w.params.setOrder a ep) es)[i]?).map fun e => (e.2, sl) := by
    rw [List.getElem?_map, Array.getElem?_toList]
    cases (pickOrder (w.params.setOrder a ep) es)[i]? <;> rfl
  rw [e] at h
  exact h
theorem next_small {sl : Nat} {Q : Option (Value × Nat) → Shared → Prop} (hb : w.params.followText "set-order" = false) (hl : t.led = true) (hz : ¬ es.size > 1) (ho : s.heap.get? a = some o) (hd : o.data = .set es ep t) (hf : t.fits es.size = true)
    (h : Q (match es[SetTable.below t.place sl]?, t.place[SetTable.below t.place sl]? with | some (_, x), some j => some (x, j + 1) | _, _ => none) s) : wpAny (model prog w) A (setNext a sl i ep) Q E s := by
  unfold setNext
  refine wpAny_bind (wpAny_setState_of ho hd hf ?_); refine wpAny_bind (byText_wp ?_)
  rw [hb, if_neg Bool.false_ne_true]; dsimp only
  refine wpAny_ite_split (fun c => ?_) (fun _ => ?_)
  · have c' : (!t.plain && decide (es.size > 1)) = true := c
    rw [show decide (es.size > 1) = false from decide_eq_false hz, Bool.and_false] at c'
    cases c'
  refine wpAny_bind ?_
  show wpAny _ _ (if (!t.led && !es.isEmpty) = true then unsupported "set:maker-not-led" else pure ()) _ _ _
  rw [hl, if_neg (by simp)]; exact wpAny_pure (wpAny_pure h)
structure Beg (prog : Program) (w : World) (A : Around) (s : Shared) (a : Addr) (es : Array (Int × Value)) (I : Addr) (h1 : Heap) (ord : List Value) (fp : List Addr) (St : Nat → Heap → Prop) : Prop where
  perm : ord.Perm (es.toList.map (·.2))
  keep : ∀ b u, s.heap.get? b = some u → h1.get? b = some u
  new : s.heap.objs.size ≤ I
  away : ∀ b ∈ fp, b = a ∨ s.heap.objs.size ≤ b
  lt : ∀ b ∈ fp, b < h1.objs.size
  walk : Walks prog w A I fp [I] ord.length (fun i v => ord[i]? = some v) St
  st : St 0 h1
theorem range_vals (es : Array (Int × Value)) : (List.range es.size).map (fun p => (es[p]?.map (·.2)).getD .none) = es.toList.map (·.2) := by
  refine List.ext_getElem? fun j => ?_
  rw [List.getElem?_map, List.getElem?_map, Array.getElem?_toList (xs := es)]
  by_cases c : j < es.size
  · rw [List.getElem?_range c, Array.getElem?_eq_getElem c]; simp [c]
  · rw [List.getElem?_eq_none (by simpa using c), Array.getElem?_eq_none (by omega)]; rfl
theorem setIter {Q : Value → Shared → Prop} (hh : A.handled = none) (ho : s.heap.get? a = some o) (hex : o.ExactSet) (hd : o.data = .set es ep t) (hf : t.fits es.size = true) (hz : es.size < scanBound) (tx : TabX w es.size t)
    (hQ : ∀ I h1 d' ord fp St, Beg prog w A s a es I h1 ord fp St → Q (.ref I) { s with heap := h1, drawn := d' }) : wpAny (model prog w) A (pyIter (.ref a)) Q E s := by
  have hT : s.TypeIs (.ref a) "set" := ⟨o, ho, hex.1⟩; have hal : a < s.heap.objs.size := Heap.lt_size ho
  refine wpAny_pyIter_slot hT so_slot (wpAny_call_entry so_slot hT so_entry ?_ (so_args _))
  unfold Builtin.«frozenset.__iter__» Builtin.Frozenset.slot0 slotArgs
  simp only [List.isEmpty_nil, Bool.not_true, Bool.false_eq_true, ↓reduceIte, bind_assoc, List.length_nil, bne_self_eq_false]; unfold Builtin.Frozenset.addrOf Builtin.Frozenset.sizeOf
  refine wpAny_bind (wpAny_pure ?_); try dsimp only
  refine wpAny_bind (wpAny_pure ?_); refine wpAny_bind (wpAny_bind (wpAny_setEntries_of ho hd hf (wpAny_pure ?_)))
  refine wpAny_bind ?_
  unfold setDrawn
  refine wpAny_bind (wpAny_setState_of ho hd hf ?_); refine wpAny_bind (byText_wp (wpAny_pure ?_))
  have fin : ∀ (fst : Value) (h0 : Heap) (d' : Drawn) (ord : List Value) (fp : List Addr) (St : Nat → Heap → Prop), (∀ b u, s.heap.get? b = some u → h0.get? b = some u) → ord.Perm (es.toList.map (·.2)) →
      (∀ b ∈ fp, b = a ∨ s.heap.objs.size ≤ b) → (∀ b ∈ fp, b < h0.objs.size + 1) → s.heap.objs.size ≤ h0.objs.size →
      Walks prog w A h0.objs.size fp [h0.objs.size] ord.length (fun i v => ord[i]? = some v) St → St 0 (h0.push (sIt fst 0 a es.size ep)) →
      wpAny (model prog w) A.in1 (do
        let e ← setEpoch a
        let v ← newFields "set_iterator" [fst, rawInt 0, Value.ref a, rawInt es.size, rawInt e]
        ret v) (fun f s' => ∃ v, f = Fin.done (Flow.ret v) ∧ ∃ T' r, s'.TypeIs v T' ∧ typeLookup (Value.type T') (Str.ofString "__next__") = pure (some r) ∧ Q v s') E { s with heap := h0, drawn := d' } := by
    intro fst h0 d' ord fp St k p f1 f2 l W z
    refine wpAny_bind (wpAny_setEpoch_of (k _ _ ho) hd hf ?_)
    unfold newFields
    refine wpAny_bind (wpAny_newObj_type ?_); refine wpAny_pure ⟨_, rfl, "set_iterator", _, ⟨_, Heap.get?_push_size _ rfl, rfl⟩, si_slot.lookup, hQ _ _ d' ord fp St ⟨p, fun b u e => Heap.get?_push_of_some _ (k b u e), l, f1, fun b hb => by rw [Heap.size_push]; exact f2 b hb, W, z⟩⟩
  have len : ∀ {ord : List Value}, ord.Perm (es.toList.map (·.2)) → es.size = ord.length := fun p => by
    rw [p.length_eq, List.length_map, Array.length_toList]
  have two1 : ∀ b ∈ [s.heap.objs.size, a], b = a ∨ s.heap.objs.size ≤ b := fun b m => by
    rcases List.mem_cons.mp m with e | m
    · exact .inr (Nat.le_of_eq e.symm)
    · exact .inl (List.mem_singleton.mp m)
  have two2 : ∀ b ∈ [s.heap.objs.size, a], b < s.heap.objs.size + 1 := fun b m => by
    rcases List.mem_cons.mp m with e | m
    · exact e ▸ Nat.lt_succ_self _
    · rw [List.mem_singleton.mp m]; exact Nat.lt_succ_of_lt hal
  cases hb : w.params.followText "set-order" with
  | true =>
    rw [if_neg (by simp)]
    have p := ((pick_perm (w.params.setOrder a ep) es).map (·.2))
    refine wpAny_bind (wpAny_pure (fin _ _ _ ((pickOrder (w.params.setOrder a ep) es).toList.map (·.2)) [s.heap.objs.size, a] _ (fun _ _ e => e) p two1 two2 (Nat.le_refl _) (walkA hh (Nat.ne_of_lt hal) hd hf _ (len p) (fun _ => 0) ?_ ?_) ⟨?_, Heap.get?_push_of_some _ ho⟩))
    · intro i x s E' Q' e1 e2 z
      refine next_text hb e1 hd hf ?_
      rw [e2]; exact z
    · intro s E' Q' e1 z
      refine next_text hb e1 hd hf ?_
      rw [List.getElem?_eq_none (Nat.le_refl _)]; exact z
    · rw [← len p]; exact Heap.get?_push_size _ rfl
  | false =>
    by_cases hz1 : es.size > 1
    · have hp : t.plain = false := tx.2 (by omega)
      rw [if_pos (by show (!false && (!t.plain && decide (es.size > 1))) = true; rw [hp, decide_eq_true hz1]; rfl)]
      refine wpAny_bind (draws_wp _ _ _ _ (by simp) fun ys d' p => ?_)
      have l : ys.length = es.size := by rw [p.length_eq, List.length_range]
      have big : es.size ≤ sizeLine := fits_of_scanBound hz
      unfold newTuple
      refine wpAny_bind (wpAny_newObj_type ?_ (by show (ys.map fun (i : Nat) => rawInt i).toArray.size ≤ sizeLine; simpa [l] using big))
      have q : (ys.map fun p => (es[p]?.map (·.2)).getD .none).Perm (es.toList.map (·.2)) := by rw [← range_vals es]; exact p.map _
      refine fin (.ref s.heap.objs.size) _ d' (ys.map fun p => (es[p]?.map (·.2)).getD .none) [(s.heap.push _).objs.size, a, s.heap.objs.size] _ (fun _ _ e => Heap.get?_push_of_some _ e) q ?_ ?_ (by rw [Heap.size_push]; exact Nat.le_succ _)
        (walkB (oT := { cls := .type "tuple", data := .seq (ys.map fun (i : Nat) => rawInt i).toArray }) (ps := (ys.map fun (i : Nat) => rawInt i).toArray) hh (by rw [Heap.size_push]; exact Nat.ne_of_lt (Nat.lt_succ_of_lt hal)) (by rw [Heap.size_push]; exact Nat.ne_of_lt (Nat.lt_succ_self _)) hd hf _ (len q) rfl (by simp) ?_) ⟨?_, ?_, ?_⟩
      · intro b m
        rw [Heap.size_push] at m
        simp only [List.mem_cons, List.not_mem_nil, or_false] at m
        rcases m with rfl | rfl | rfl
        · exact .inr (Nat.le_succ _)
        · exact .inl rfl
        · exact .inr (Nat.le_refl _)
      · intro b m
        rw [Heap.size_push] at m ⊢
        simp only [List.mem_cons, List.not_mem_nil, or_false] at m
        rcases m with rfl | rfl | rfl
        · exact Nat.lt_succ_self _
        · exact Nat.lt_succ_of_lt (Nat.lt_succ_of_lt hal)
        · exact Nat.le_succ_of_le (Nat.lt_succ_self _)
      · intro i x e
        rw [List.getElem?_map] at e
        cases c : ys[i]? with
        | none => rw [c] at e; cases e
        | some j =>
          rw [c] at e
          have hj : j < es.size := by
            have := p.mem_iff.mp (List.mem_of_getElem? c)
            simpa using this
          have hx : x = es[j].2 := by
            simp only [Option.map_some, Option.some.injEq] at e
            rw [← e, Array.getElem?_eq_getElem hj]; rfl
          exact ⟨j, 0, es[j].1, by simp [c, rawInt], by rw [Array.getElem?_eq_getElem hj, hx]⟩
      · rw [← len q]; exact Heap.get?_push_size _ rfl
      · exact Heap.get?_push_of_some _ (Heap.get?_push_of_some _ ho)
      · exact Heap.get?_push_of_some _ (by exact Heap.get?_push_size _ rfl)
    · rw [if_neg (by
        show ¬ ((!false && (!t.plain && decide (es.size > 1))) = true)
        rw [decide_eq_false hz1]; simp)]
      have hl : t.led = true := by rw [tx.1, hb]; rfl
      have hpl : t.place.size = es.size := by
        simp only [SetTable.fits, Bool.and_eq_true, beq_iff_eq] at hf
        exact hf.1
      refine wpAny_bind (wpAny_pure (fin _ _ _ (es.toList.map (·.2)) [s.heap.objs.size, a] _ (fun _ _ e => e) (.refl _) two1 two2 (Nat.le_refl _) (walkA hh (Nat.ne_of_lt hal) hd hf _ (len (.refl _)) (fun i => if i = 0 then 0 else t.place.getD 0 0 + 1) ?_ ?_) ⟨?_, Heap.get?_push_of_some _ ho⟩))
      · intro i x s E' Q' e1 e2 z
        have hi : i < es.size := by
          rw [List.getElem?_map] at e2
          cases c : es.toList[i]? with
          | none => rw [c] at e2; cases e2
          | some _ => simpa using (List.getElem?_eq_some_iff.mp c).1
        have h1 : es.size = 1 := by omega
        have h0 : i = 0 := by omega
        subst h0
        refine next_small hb hl hz1 e1 hd hf ?_
        rw [if_pos rfl, below1 (hpl.trans h1)]
        rw [if_neg (Nat.not_lt_zero _)]
        have g1 : es[0]? = some (es[0].1, x) := by
          rw [Array.getElem?_eq_getElem hi]
          rw [List.getElem?_map, Array.getElem?_toList, Array.getElem?_eq_getElem hi] at e2
          simp only [Option.map_some, Option.some.injEq] at e2
          rw [← e2]
        have g2 : t.place[0]? = some (t.place.getD 0 0) := by
          have : 0 < t.place.size := by omega
          rw [Array.getElem?_eq_getElem this]
          simp [Array.getD, this]
        rw [g1, g2]
        exact z
      · intro s E' Q' e1 z
        refine next_small hb hl hz1 e1 hd hf ?_
        by_cases h1 : es.size = 1
        · rw [show (es.toList.map (·.2)).length = 1 from by simpa using h1, if_neg (by decide), below1 (hpl.trans h1)]
          have : 0 < t.place.size := by omega
          rw [if_pos (by simp [Array.getD, this])]
          rw [Array.getElem?_eq_none (by omega)]
          exact z
        · have h0 : es.size = 0 := by omega
          rw [Array.getElem?_eq_none (by omega)]
          exact z
      · rw [← len (.refl _)]; exact Heap.get?_push_size _ rfl
end
end L2
namespace L2
open PySem PySem.Spec PyProof.Rows
theorem Inv.drew {X : Cx} {pins : List (Addr × Obj)} {σ : St} {H : Hp} {s : Shared} (I : Inv X pins σ H s) (d' : Drawn) : Inv X pins σ H { s with drawn := d' } :=
  ⟨I.ok, I.os, I.bare, I.base, I.loc, I.cell, I.free, I.freeC, I.pin, I.hok, I.len⟩
section
variable {prog : Program} {w : World} {A : Around} {E : Value → Shared → Prop} {s : Shared} {a : Addr} {ep : Nat} {o : Obj} {es : Array (Int × Value)} {t : SetTable}
theorem hint_set {Q : Bool → Shared → Prop} (hT : s.TypeIs (.ref a) "set") (h : Q false s) : wpAny (model prog w) A (Builtin.List.listLengthHint (.ref a)) Q E s := by
  unfold Builtin.List.listLengthHint; refine wpAny_bind (wpAny_specialOf hT PySem.F.slot_set_len.lookup ?_)
  generalize hid : ("set.__len__" : String) = id0
  wp_delta
  rw [show splitId id0 = some ("set", "__len__") from by subst hid; decide +kernel]
  subst hid
  refine wpAny_bind (wpAny_isInstance (T := "set") (b := true) hT (by rw [isSubtype_type]; kernel_rfl) ?_)
  refine wpAny_ite_split (fun z => absurd z (by decide)) (fun _ => ?_)
  refine wpAny_ite_split (fun _ => ?_) (fun z => absurd (by decide +kernel) z)
  exact wpAny_bind (wpAny_typeOf hT (wpAny_pure h))
theorem extendX {R : Result → Shared → Prop} (hh : A.handled = none) (ho : s.heap.get? a = some o) (hex : o.ExactSet) (hd : o.data = .set es ep t) (hf : t.fits es.size = true) (hz : es.size < scanBound) (tx : TabX w es.size t)
    (S : Addr) (hSa : S ≠ a) (res : Value) (hS : s.heap.get? S = some { cls := .type "list", data := .seq #[] 0 })
    (hR : ∀ h' d' tk (acc : Array Value) c, acc.toList.Perm (es.toList.map (·.2)) → (∀ b u, b ≠ S → s.heap.get? b = some u → h'.get? b = some u) → h'.get? S = some { cls := .type "list", dict := none, data := .seq acc c, slots := #[] } → R (.ok (.ret res)) { s with heap := h', drawn := d', toks := tk }) :
    wpAny (model prog w) A.in1 (Builtin.List.listExtendWith (.ref S) (.ref a) res) (fun fin s' => match fin with | .done f => R (.ok f) s' | .again c' => c'.quiet = true ∧ codeAny (model prog w) A c' R s') (fun e s' => R (.error e) s') s := by
  have hT : s.TypeIs (.ref a) "set" := ⟨o, ho, hex.1⟩; have hSl : S < s.heap.objs.size := Heap.lt_size hS
  unfold Builtin.List.listExtendWith; refine wpAny_bind (wpAny_typeOf (T := "set") hT ?_)
  have n1 : Builtin.List.listSameRef (.ref S) (.ref a) = false := by simp [Builtin.List.listSameRef, hSa]
  have n2 : (Value.type "set" == Value.type "list") = false := by decide
  have n3 : (Value.type "set" == Value.type "tuple") = false := by decide
  simp only [n1, n2, n3, Bool.or_false, Bool.false_eq_true, if_false]
  refine wpAny_bind (setIter hh ho hex hd hf hz tx fun I h1 d' ord fp St B => ?_)
  have hSf : S ∉ fp := fun m => by
    rcases B.away S m with e | e
    · exact hSa e
    · exact absurd hSl (Nat.not_lt.mpr e)
  have hSI : S ≠ I := fun e => absurd hSl (Nat.not_lt.mpr (e ▸ B.new))
  have hlen : ord.length ≤ sizeLine := by
    rw [B.perm.length_eq, List.length_map, Array.length_toList]; exact fits_of_scanBound hz
  have key : ∀ (h : Heap) (c1 tk : Nat), St 0 h → (∀ b u, b ≠ S → s.heap.get? b = some u → h.get? b = some u) → h.get? S = some { cls := .type "list", data := .seq #[] c1 } →
      codeAny (model prog w) A (.builtin "list.extend.loop" ⟨[.ref S, .ref I, res], []⟩) R { s with heap := h, drawn := d', toks := tk } := by
    intro h c1 tk st k g
    refine codeAny_extend_loopS B.walk.toS hlen S hSf res ord.length 0 _ #[] c1 rfl (Nat.zero_le _) st g (ItemsOf.nil _) fun s' acc c mv g' it => ?_
    rw [Moved.eq_with mv]
    have ea : acc.toList = ord := by
      refine List.ext_getElem? fun j => ?_
      rw [Array.getElem?_toList]
      cases c : acc[j]? with
      | some v => exact (it.2 j v c).symm
      | none =>
        have : acc.size ≤ j := Array.getElem?_eq_none_iff.mp c
        rw [it.1] at this
        exact (List.getElem?_eq_none this).symm
    refine hR s'.heap d' s'.toks acc c (ea ▸ B.perm) (fun b u hb e => mv.heap b u (fun m => ?_) (k b u hb e)) g'
    rcases List.mem_cons.mp m with e' | m
    · exact hb e'
    · exact absurd (Heap.lt_size e) (by rw [List.mem_singleton.mp m]; exact Nat.not_lt.mpr B.new)
  have g1 := B.keep _ _ hS
  refine wpAny_bind (wpAny_holding (hint_set (a := a) ⟨o, B.keep _ _ ho, hex.1⟩ ?_))
  refine wpAny_ite_split (fun _ => ?_) (fun _ => wpAny_pure ⟨plainId_quiet PySem.F.plain_extend_loop _, key _ 0 _ B.st (fun b u _ e => B.keep b u e) g1⟩)
  refine wpAny_bind (wpAny_rule (wpAny_bind ?_))
  show wpAny _ _ (updateSeq S (·.push .none) >>= fun _ => updateSeq S (·.pop)) _ _ _; refine wpAny_bind (wpAny_updateSeq g1 rfl ?_)
  have g2 := Heap.get?_update_self (Obj.mapSeq (·.push Value.none)) g1 rfl
  refine wpAny_updateSeq (hz := by seq_fits) g2 rfl ?_
  have g3 := Heap.get?_update_self (Obj.mapSeq (·.pop)) g2 rfl
  refine wpAny_pure ⟨plainId_quiet PySem.F.plain_extend_loop _, key _ _ _ ?_ (fun b u hb e => ?_) g3⟩
  · refine B.walk.frame 0 _ _ B.st fun b hb u e => ?_
    have hbS : S ≠ b := fun z => hSf (z ▸ hb)
    exact (Heap.get?_update_other _ _ hbS).trans ((Heap.get?_update_other _ _ hbS).trans e)
  · exact (Heap.get?_update_other _ _ (Ne.symm hb)).trans ((Heap.get?_update_other _ _ (Ne.symm hb)).trans (B.keep _ _ e))
theorem collectX {R : List Value → Shared → Prop} (hh : A.handled = none) (ho : s.heap.get? a = some o) (hex : o.ExactSet) (hd : o.data = .set es ep t) (hf : t.fits es.size = true) (hz : es.size < scanBound) (tx : TabX w es.size t)
    (h : ∀ h' d' tk (ord : List Value), ord.Perm (es.toList.map (·.2)) → (∀ b u, s.heap.get? b = some u → h'.get? b = some u) → R ord { s with heap := h', drawn := d', toks := tk }) : wpAny (model prog w) A (collect (.ref a)) R E s := by
  unfold collect
  refine wpAny_bind (wpAny_runValue (codeAny_builtin entry_proto_collect' ?_)); rw [Around.under_plainId PySem.F.plain_proto_collect _]
  refine (show wpAny _ A.in1 (newList [] >>= fun l => again (.builtin "list.__iadd__" ⟨[l, .ref a], []⟩)) _ _ s from wpAny_bind (wpAny_newObj_type (wpAny_pure ⟨plainId_quiet PySem.F.plain_list_iadd _, codeAny_builtin entry_list_iadd' ?_⟩)))
  rw [Around.under_plainId PySem.F.plain_list_iadd _]; have g1 : (s.heap.push { cls := .type "list", data := .seq ([] : List Value).toArray }).get? s.heap.objs.size = some { cls := .type "list", data := .seq #[] } := Heap.get?_push_size _ rfl
  show wpAny _ A.in1 (Builtin.List.listExtendWith (.ref s.heap.objs.size) (.ref a) (.ref s.heap.objs.size)) _ _ _
  have key := extendX (prog := prog) (A := A) (s := { s with heap := s.heap.push { cls := .type "list", data := .seq ([] : List Value).toArray } })
    (R := fun (q : Result) (s' : Shared) => ∃ (h' : Heap) (d' : Drawn) (tk : Nat) (acc : Array Value) (c : Nat), q = .ok (.ret (.ref s.heap.objs.size)) ∧ s' = { s with heap := h', drawn := d', toks := tk } ∧
      (∀ b u, s.heap.get? b = some u → h'.get? b = some u) ∧ h'.get? s.heap.objs.size = some { cls := .type "list", dict := none, data := .seq acc c, slots := #[] } ∧ acc.toList.Perm (es.toList.map (·.2)))
    hh (Heap.get?_push_of_some _ ho) hex hd hf hz tx s.heap.objs.size (Nat.ne_of_gt (Heap.lt_size ho)) (.ref s.heap.objs.size) g1
    (fun h' d' tk acc c p k g => ⟨h', d', tk, acc, c, rfl, rfl, fun b u e => k b u (Nat.ne_of_lt (Heap.lt_size e)) (Heap.get?_push_of_some _ e), g, p⟩)
  refine wpAny_mono key (fun fn s' x => ?_) fun e s' x => ?_
  · cases fn with
    | done f =>
      obtain ⟨h', d', tk, acc, c, e, rfl, k, g, p⟩ := x
      cases e
      exact (show wpAny _ A (load s.heap.objs.size >>= _) _ _ _ from wpAny_bind (wpAny_load g (wpAny_pure (h h' d' tk _ p k))))
    | again c1 =>
      refine ⟨x.1, codeAny_mono x.2 fun q s2 y => ?_⟩
      obtain ⟨h', d', tk, acc, c, rfl, rfl, k, g, p⟩ := y
      exact (show wpAny _ A (load s.heap.objs.size >>= _) _ _ _ from wpAny_bind (wpAny_load g (wpAny_pure (h h' d' tk _ p k))))
  · obtain ⟨_, _, _, _, _, e', _⟩ := x; cases e'
theorem sortedC {r : Addr} {ks : List Str} {Q : Value → Shared → Prop} (h64 : ks.length < 64)
    (coll : ∀ (R : List Value → Shared → Prop), (∀ h' d' tk (vs : List Value) (xs : List Str), StrsAre vs xs → xs.Perm ks → (∀ b u, s.heap.get? b = some u → h'.get? b = some u) → R vs { s with heap := h', drawn := d', toks := tk }) → wpAny (model prog w) A.in1 (collect (.ref r)) R E s)
    (h : ∀ (h1 h' : Heap) (d' : Drawn) (tk e : Nat) (out : Array Value) (xs : List Str), StrsAre out.toList xs → xs.Perm ks → sortedS xs = true → (∀ b u, s.heap.get? b = some u → h1.get? b = some u) → h'.get? h1.objs.size = some (seqObj "list" out e) → (∀ b u, h1.get? b = some u → h'.get? b = some u) →
      Q (.ref h1.objs.size) { s with heap := h', drawn := d', toks := tk }) : wpAny (model prog w) A (call (.builtin "sorted") [.ref r]) Q E s := by
  refine Calls.call_function_entry kind_sorted plain_sorted entry_sorted (args_sorted1 _) ?_; unfold Builtin.«sorted»
  refine wpAny_bind (m := checkCount "sorted" 1 1 _) (wpAny_pure (wpAny_bind (coll _ fun h' d' tk vs xs st pm k => ?_)))
  have lv : vs.length < 64 := by
    have : vs.length = xs.length := by rw [← st.strs, List.length_map]
    rw [this, pm.length_eq]; exact h64
  refine wpAny_bind (wpAny_newList ?_ (by rw [sizeLine_eq]; omega)); have g : (h'.push { cls := .type "list", data := .seq vs.toArray }).get? h'.objs.size = some (seqObj "list" vs.toArray 0) := Heap.get?_push_size _ rfl
  refine wpAny_bind (wpAny_holding (wpAny_call_entry slot_list_sort ⟨_, g, rfl⟩ entry_list_sort (list_sort_treeK strKind_oneLt g st.keysOf (fun v1 v2 rest e => keyKind_strs (by rw [← e]; exact st)) lv fun st' a1 a2 => ⟨_, rfl, ?_⟩) (args_list_sort _)))
  obtain ⟨ys, y1, y2, y3⟩ := sorted_out_str st a1 a2
  obtain ⟨e, ge⟩ := sortedHeap_at (out := (arrOf st').map (·.2)) g
  refine wpAny_pure ⟨_, rfl, h h' _ d' tk e _ ys y1 (y2.trans pm) y3 k ge fun b u eb => ?_⟩
  have lb := Heap.lt_size eb
  rw [sortedHeap_old (Nat.ne_of_lt lb) (by rw [Heap.size_push]; exact Nat.lt_succ_of_lt lb)]
  exact Heap.get?_push_of_some _ eb
end
theorem perm_of {α : Type} [DecidableEq α] : ∀ {l m : List α}, l.Nodup → (∀ x ∈ l, x ∈ m) → m.length ≤ l.length → l.Perm m
  | [], m, _, _, z => by
    have : m = [] := List.length_eq_zero_iff.mp (Nat.le_zero.mp z)
    rw [this]
  | x :: r, m, nd, sub, z => by
    have hx := sub x List.mem_cons_self
    rw [List.nodup_cons] at nd
    have p := List.perm_cons_erase hx
    refine ((perm_of nd.2 (fun y hy => ?_) ?_).cons x).trans p.symm
    · have : y ≠ x := fun e => nd.1 (e ▸ hy)
      exact (List.mem_erase_of_ne this).mpr (sub y (List.mem_cons_of_mem _ hy))
    · rw [List.length_erase_of_mem hx]
      simp only [List.length_cons] at z
      omega
theorem strs_get : ∀ (vs : List Value) (xs : List Str), vs.length = xs.length → (∀ (i : Nat) (v : Value), vs[i]? = some v → ∃ x t, xs[i]? = some x ∧ v = Value.str x t) → StrsAre vs xs
  | [], [], _, _ => .nil
  | [], _ :: _, z, _ => absurd z (by simp)
  | _ :: _, [], z, _ => absurd z (by simp)
  | v :: vs, x :: xs, z, h => by
    obtain ⟨y, t, e, rfl⟩ := h 0 v rfl
    cases e
    exact .cons x t (strs_get vs xs (by simpa using z) fun i u e => h (i + 1) u e)
theorem strsVals : ∀ {vs : List Value} {xs : List Str}, StrsAre vs xs → Vals (xs.map V.str) vs
  | _, _, .nil => .nil
  | _, _, .cons x t h => .cons ⟨t, rfl⟩ (strsVals h)
inductive Src (X : Cx) (H : Hp) (a : Addr) : List Str → Prop where
  | set (xs : List Str) (e : H a = some (setO X.prog X.w a xs)) : Src X H a (uniq xs)
  | dict (kvs : List (Key × V)) (ks : List Str) (e : Rd H a (.dK kvs)) (k : kvs.map (·.1) = ks.map Sum.inr) : Src X H a ks
section
variable {X : Cx}
theorem call_sorted (hc : X.calm = true) : CallR X (.builtin "sorted") (fun vs H Q => ∃ a ks, vs = [.ref a] ∧ Src X H a ks ∧ ks.length < 64 ∧ ∀ ss p H', ss.Perm ks → sortedS ss = true → New H p (.lst (ss.map V.str)) H' → Q (.ref p) H') := by
  intro pins s σ H vs us Q I r h
  obtain ⟨a, ks, rfl, hS, hl, q⟩ := h
  obtain ⟨u, rfl, ru⟩ := vals1 r
  cases ru
  have hh := I.ok.hd hc
  have fin : ∀ (h1 h' : Heap) (d' : Drawn) (tk e : Nat) (out : Array Value) (xs : List Str), StrsAre out.toList xs → xs.Perm ks → sortedS xs = true → (∀ b u, s.heap.get? b = some u → h1.get? b = some u) → h'.get? h1.objs.size = some (seqObj "list" out e) → (∀ b u, h1.get? b = some u → h'.get? b = some u) →
      EP X pins σ Q (.ref h1.objs.size) { s with heap := h', drawn := d', toks := tk } := by
    intro h1 h' d' tk e out xs st pm so k1 g k2
    have I1 : Inv X pins σ H { s with heap := h1, toks := s.toks } := I.un (Un.kept k1) (I.hok.kept k1)
    have lx : xs.length < 64 := by rw [pm.length_eq]; exact hl
    have I2 : Inv X pins σ (upd H h1.objs.size (.lst (xs.map V.str))) { s with heap := h', toks := tk } := I1.laid (t' := tk) k2 (Nat.le_refl _) ⟨by rw [List.length_map, sizeLine_eq]; omega, out.toList, e, strsVals st, by simpa [seqObj] using g⟩
    exact ⟨.ref h1.objs.size, _, I2.drew d', rfl, q xs _ _ pm so ⟨I1.hok.fresh (Nat.le_refl _), rfl⟩⟩
  cases hS with
  | set xs e =>
    obtain ⟨hx, _, _⟩ := (show ObjOk X.prog X.w H s.heap a (setO X.prog X.w a xs) from I.hok a _ e)
    obtain ⟨o, es, ep, t, eo, ex, d, ⟨hel, hmem, hb, hf, hn⟩, tx⟩ := hx
    refine sortedC hl (fun R k => collectX (by exact hh) eo ex d hf hb tx fun h' d' tk ord p kp => ?_) fin
    have al : ∀ v ∈ ord, ∃ x t, v = Value.str x t := fun v hv => by
      obtain ⟨en, m, rfl⟩ := List.mem_map.mp (p.mem_iff.mp hv)
      obtain ⟨⟨y, hy, _⟩, _⟩ := hel en m
      have hy' : Value.isStrOf y en.2 = true := hy
      revert hy'
      cases en.2 <;> simp [Value.isStrOf]
    refine k h' d' tk ord (ord.map strOf) (strsAre_map ord al) ?_ kp
    refine (perm_of (uniq_facts xs).1 (fun y hy => ?_) ?_).symm
    · obtain ⟨en, m, hy'⟩ := (hmem y).mp (by simpa using hy)
      refine List.mem_map.mpr ⟨en.2, p.mem_iff.mpr (List.mem_map.mpr ⟨en, m, rfl⟩), ?_⟩
      have hy'' : Value.isStrOf y en.2 = true := hy'
      revert hy''
      cases en.2 <;> simp [Value.isStrOf, strOf]
    · rw [List.length_map, p.length_eq, List.length_map, Array.length_toList, hn]
      exact Nat.le_refl _
  | dict kvs _ e kk =>
    obtain ⟨z, hd, ws, rel, dd⟩ := dk_rd I.hok e
    obtain ⟨ep, dat⟩ := dd.dictAt
    have hlen : ws.length = ks.length := by
      rw [← rel.length]
      have := congrArg List.length kk
      simpa using this
    refine sortedC hl (fun R k => PySem.W.kdu_collect (A := X.A.in1) (PySem.W.kdl_dict (knd := mixKind X.prog X.w) (kvs := ws) (ep := ep) hd) (by exact hh) dat (by rw [hlen, sizeLine_eq]; omega) fun h' tk acc kp it => ?_) fin
    refine k h' s.drawn tk acc.toList ks (strs_get _ _ (by rw [Array.length_toList, it.1, hlen]) fun i v e => ?_) (.refl _) kp
    rw [Array.getElem?_toList] at e
    obtain ⟨kk', x, e1, e2⟩ := it.2 i v e
    have e3 : (ws.map (·.1))[i]? = some kk' := by rw [List.getElem?_map, e1]; rfl
    rw [← rel.keys, kk, List.getElem?_map] at e3
    cases c : ks[i]? with
    | none => rw [c] at e3; cases e3
    | some y =>
      rw [c] at e3
      cases e3
      rcases keyIs_shape (show keyIs (Sum.inr y) v = true from e2) with ⟨j, t', e3, _⟩ | ⟨y', t', e3, e4⟩
      · cases e3
      · cases e3
        exact ⟨y, t', rfl, e4⟩
end
end L2
namespace L2
open PySem PySem.Spec PyProof.Rows
section
variable {prog : Program} {w : World} {A : Around} {E : Value → Shared → Prop} {s : Shared} {a : Addr}
def PairAt (h : Heap) (item : Value) (k : Key) (v : Value) : Prop := ∃ q o key c, item = .ref q ∧ h.get? q = some o ∧ o.cls = .type "tuple" ∧ o.data = .seq #[key, v] c ∧ keyIs k key = true
def fillS (ps : List (Key × Value)) : List (Key × Value) := ps.foldl (fun d p => stored d p.1 p.2) []
end
end L2
namespace L2
open PySem PySem.Spec PyProof.Rows
section
variable {prog : Program} {w : World} {A : Around} {E : Value → Shared → Prop} {s : Shared} {a : Addr}
end
def fillK (ps : List (Key × V)) : List (Key × V) := ps.foldl (fun d p => putK d p.1 p.2) []
abbrev PairsH (H : Hp) : List Addr → List (Key × V) → Prop := Paired fun q p => Rd H q (.tup [kV p.1, p.2])
section
variable {X : Cx}
end
end L2
namespace L2
open PySem PySem.Spec PyProof.Rows
def Nx (n : Nat) (Pv : Addr → Nat → List V → Hp → Prop) (D : Addr) (i : Nat) (ys : List V) (H : Hp) : Prop := ∃ m', m' < n - i ∧ m' = n - (i + 1) ∧ i + 1 ≤ n ∧ ys.length ≤ i + 1 ∧ Pv D (i + 1) ys H
theorem nx {n : Nat} {Pv : Addr → Nat → List V → Hp → Prop} {D : Addr} {i : Nat} {ys : List V} {H : Hp} (hi : i < n) (hl : ys.length ≤ i + 1) (p : Pv D (i + 1) ys H) : Nx n Pv D i ys H := ⟨n - (i + 1), by omega, rfl, hi, hl, p⟩
section
variable {X : Cx} {o i value : Expr} {td ty tv : TE} {pos pos' : Pos}
def sDPutS (td ty tv : TE) : TS := fun D σ H => tv σ H fun v H1 => td σ H1 fun d H2 => ty σ H2 fun y H3 => ∃ a kvs x, d = .ref a ∧ y = .str x ∧ H3 a = some (.dK kvs) ∧ kvs.length < sizeLine ∧ ∀ H4, Chg H3 a (.dK (putK kvs (Sum.inr x) v)) H4 → D.nx σ H4
end
def leS (a b : Str) : Prop := ltCps b.cps.toList a.cps.toList = false
theorem leS_le {a b : Str} : leS a b ↔ a.cps.toList ≤ b.cps.toList := by
  unfold leS
  rw [ltCps_eq, decide_eq_false_iff_not]
  exact List.not_lt
theorem leS_trans {a b c : Str} (h1 : leS a b) (h2 : leS b c) : leS a c := leS_le.mpr (List.le_trans (leS_le.mp h1) (leS_le.mp h2))
theorem leS_anti {a b : Str} (h1 : leS a b) (h2 : leS b a) : a = b := by
  have := List.le_antisymm (leS_le.mp h1) (leS_le.mp h2)
  cases a; cases b
  simp only [Str.mk.injEq]
  exact Array.toList_inj.mp this
theorem rising_pw : ∀ (l : List Str) (p : Str), risingS p l = true → (p :: l).Pairwise leS
  | [], p, _ => List.pairwise_singleton _ _
  | x :: r, p, h => by
    have h' : (!ltCps x.cps.toList p.cps.toList && risingS x r) = true := h
    rw [Bool.and_eq_true] at h'
    have hx : leS p x := by simpa [leS] using h'.1
    have ih := rising_pw r x h'.2
    rw [List.pairwise_cons]
    refine ⟨fun y hy => ?_, ih⟩; rcases List.mem_cons.mp hy with rfl | hy
    · exact hx
    · exact leS_trans hx ((List.pairwise_cons.mp ih).1 y hy)
theorem sorted_pw : ∀ {l : List Str}, sortedS l = true → l.Pairwise leS
  | [], _ => .nil
  | x :: r, h => rising_pw r x h
theorem perm_sorted : ∀ {a b : List Str}, a.Pairwise leS → b.Pairwise leS → a.Perm b → a = b
  | [], b, _, _, p => (List.nil_perm.mp p).symm
  | x :: r, b, ha, hb, p => by
    match b, p, hb with
    | [], p, _ => exact absurd p.length_eq (by simp)
    | y :: t, p, hb =>
      rw [List.pairwise_cons] at ha hb
      have e : x = y := by
        have mx : x ∈ y :: t := p.subset List.mem_cons_self
        have my : y ∈ x :: r := p.symm.subset List.mem_cons_self
        rcases List.mem_cons.mp mx with e | mx
        · exact e
        · rcases List.mem_cons.mp my with e | my
          · exact e.symm
          · exact leS_anti (ha.1 y my) (hb.1 x mx)
      subst e
      rw [perm_sorted ha.2 hb.2 p.cons_inv]
end L2
namespace L2
open PySem PySem.Spec PyProof.Rows
def ConT (K : PySem.W.Frag) (mg : Str → Option Value) (x : Str) (vs : List V) : Prop := ∃ a, mg x = some (.ref a) ∧ ∀ H, SqT K H a vs
section
variable {X : Cx}
theorem call_allL (hc : X.calm = true) : CallR X (.builtin "all") (fun vs H Q => ∃ (a : Addr) (bs : List Bool), vs = [.ref a] ∧ SqL X.K H a (bs.map V.bl) ∧ Q (.bl (bs.all id)) H) := by
  intro pins s σ H vs us Q I r h
  obtain ⟨a, bs, rfl, hS, q⟩ := h
  obtain ⟨u, rfl, ru⟩ := vals1 r
  cases ru
  have hh : X.A.in1.handled = none := I.ok.hd hc
  obtain ⟨its, rv, ⟨o, n, e, c, dd, d⟩, z⟩ := I.list hS
  have l1 : s.heap.IsList a its.toArray := ⟨o, e, c, n, d⟩
  have hl := rv.length
  rw [List.length_map] at hl
  refine call_all_walk (wpAny_pyIter_list l1 ⟨s.heap.objs.size, _, _, _, _, _, fun i => bs.getD i true, rfl, Walks.list hh _ a (Nat.ne_of_lt (Heap.lt_size e)) its.toArray, ⟨⟨_, Heap.get?_push_size _ rfl, rfl, rfl⟩, l1.push _⟩, ?_, fun h' tk k => ?_⟩)
  · intro i v s Q E hv hq
    have hi : i < bs.length := by
      have := (Array.getElem?_eq_some_iff.mp hv).1
      rw [List.size_toArray] at this
      omega
    have e1 : (bs.map V.bl)[i]? = some (.bl bs[i]) := by rw [List.getElem?_map, List.getElem?_eq_getElem hi]; rfl
    obtain ⟨u, hu, ru⟩ := rv.get e1
    rw [List.getElem?_toArray, hu] at hv
    obtain rfl : u = v := Option.some.inj hv
    obtain rfl : u = Value.bool bs[i] := ru
    have e3 : bs.getD i true = bs[i] := by rw [List.getD_eq_getElem?_getD, List.getElem?_eq_getElem hi]; rfl
    refine wpAny_truthy_bool ?_
    rw [← e3]; exact hq
  · have ks : ∀ b u, s.heap.get? b = some u → h'.get? b = some u := fun b u hb => k b u (fun m => absurd (Heap.lt_size hb) (by rw [List.mem_singleton.mp m]; exact Nat.lt_irrefl _)) (Heap.get?_push_of_some _ hb)
    have e2 : (List.range its.toArray.size).all (fun i => bs.getD i true) = bs.all id := by
      rw [List.size_toArray, ← hl]
      rw [Bool.eq_iff_iff]
      simp only [List.all_eq_true, List.mem_range, id_eq]
      constructor
      · intro h b hb
        (obtain ⟨i, hi, rfl⟩ := List.getElem_of_mem hb)
        have := h i hi
        rw [List.getD_eq_getElem?_getD, List.getElem?_eq_getElem hi] at this
        exact this
      · intro h i hi
        (rw [List.getD_eq_getElem?_getD, List.getElem?_eq_getElem hi])
        exact h _ (List.getElem_mem hi)
    rw [e2]
    exact ⟨.bl (bs.all id), H, I.un (Un.kept ks) (I.hok.kept ks), rfl, q⟩
end
end L2
namespace L2
open PySem PySem.Spec PyProof.Rows
def inD (d : PyData) (ss : List Str) : Bool := match d with
  | .str y => decide (y ∈ ss)
  | _ => false
section
variable {X : Cx}
def rInD (K : PySem.W.Frag) : R2 := fun x y H Q => ∃ g d ss p, y = .ref p ∧ (SqL K H p (ss.map V.str) ∨ SqT K H p (ss.map V.str)) ∧ Tr g H x d ∧ Q (.bl (inD d ss)) H
end
end L2
namespace L2
open PySem PySem.Spec PyProof.Rows
def Itz (K : PySem.W.Frag) (l1 l2 : Addr) : It :=
  ⟨fun i H => ∃ xs ys x y, SqL K H l1 xs ∧ SqL K H l2 ys ∧ xs[i]? = some x ∧ ys[i]? = some y,
   fun i H v H' => ∃ T, v = .ref T ∧ ∀ xs ys, SqL K H l1 xs → SqL K H l2 ys → ∃ x y, xs[i]? = some x ∧ ys[i]? = some y ∧ New H T (.tup [x, y]) H',
   fun i H => ∃ xs ys, SqL K H l1 xs ∧ SqL K H l2 ys ∧ (xs.length ≤ i ∨ ys.length ≤ i)⟩
def ZipAt (l1 l2 z TI TO i1 i2 : Addr) (i : Nat) (h : Heap) : Prop := ZipApart z TI TO i1 i2 l1 l2 ∧ IsZip h z TI TO .none ∧ IsPair h TI (.ref i1) (.ref i2) ∧ (∃ a b, IsPair h TO a b) ∧ h.IsListIter i1 l1 i ∧ h.IsListIter i2 l2 i
def iZip (K : PySem.W.Frag) (ta : TA) : TI := fun σ H R => ta σ H fun vs H1 => ∃ l1 l2 xs ys, vs = [.ref l1, .ref l2] ∧ SqL K H1 l1 xs ∧ SqL K H1 l2 ys ∧ R (Itz K l1 l2) H1
section
variable {X : Cx}
end
end L2
namespace L2
open PySem PySem.Spec PyProof.Rows
section
variable {X : Cx}
def rEqSs (K : PySem.W.Frag) : R2 := fun x y H Q => ∃ (a b : Addr) (xs ys : List Str), x = .ref a ∧ y = .ref b ∧ SqL K H a (xs.map V.str) ∧ SqL K H b (ys.map V.str) ∧ Q (.bl (decide (xs = ys))) H
end
end L2
namespace L2
open PySem PySem.Spec PyProof.Rows
section
open HT
variable {prog : Program} {w : World} {A : Around} {E : Value → Shared → Prop} {s : Shared}
theorem cut_whole {t sl : Addr} {items : Array Value} {vl vu : Value} {lo hi : Option Int} {Q : Value → Shared → Prop} (ht : IsTup s.heap t items) (hs : s.heap.IsSliceOf sl vl vu .none) (pl : IsPart vl lo) (pu : IsPart vu hi)
    (hw : sIx items.size 0 lo = 0 ∧ sIx items.size items.size hi = items.size) (h : Q (.ref t) s) : wpAny (model prog w) A (getItem (.ref t) (.ref sl)) Q E s := by
  obtain ⟨os, hos, hcs, hds⟩ := id hs
  have hTs : s.TypeIs (.ref sl) "slice" := ⟨os, hos, hcs⟩
  unfold getItem
  try with_reducible refine wpAny_holding ?_
  first | refine wpAny_bind (wpAny_pure ?_) | skip
  refine wpAny_bind (wpAny_sequenceKey ht.typeIs (by decide) (wpAny_bind (wpAny_callSpecial?_slot (name := Str.ofString "__getitem__") ht.typeIs PyProof.Rows.slot_tuple_getitem
    (wpAny_call_entry PyProof.Rows.slot_tuple_getitem ht.typeIs entry_tuple_getitem ?_ (args_tuple_getitem _ _)))))
  show wpAny _ _ (Builtin.Tuple.tupleItemsOf (.ref t) >>= _) _ _ s
  refine wpAny_bind (tupleItemsOf_ ht (wpAny_bind (wpAny_typeOf hTs ?_)))
  rw [if_pos (by decide)]
  refine wpAny_bind (sliceApplied_gen hs pl pu ?_)
  have yes : (((sIx items.size 0 lo : Nat) : Int) == 0 && (1 : Int) == 1 && (sIx items.size items.size hi - sIx items.size 0 lo) == items.size) = true := by
    rw [hw.1, hw.2]; simp
  show wpAny _ _ (if (((sIx items.size 0 lo : Nat) : Int) == 0 && (1 : Int) == 1 && (sIx items.size items.size hi - sIx items.size 0 lo) == items.size) = true then _ else _) _ _ s
  rw [if_pos yes]
  unfold Builtin.Tuple.tupleIsExact
  refine wpAny_bind (wpAny_bind (wpAny_typeOf ht.typeIs (wpAny_pure ?_)))
  rw [if_pos (by decide)]
  exact wpAny_bind (wpAny_rule (wpAny_pure ⟨_, rfl, wpAny_pure h⟩))
end
section
variable {X : Cx}
def rSlTA (K : PySem.W.Frag) : V → Option Int → Option Int → Hp → VK → Prop := fun x lo hi H Q => ∃ a xs, x = .ref a ∧ SqT K H a xs ∧ (cutV xs lo hi = xs → Q (.ref a) H) ∧ ∀ p H', New H p (.tup (cutV xs lo hi)) H' → Q (.ref p) H'
theorem sl_tupA : SlR X (rSlTA X.K) := by
  intro pins s σ H x v vl vu lo hi sl Q I rx hs pl pu h
  obtain ⟨a, xs, rfl, hx, q1, q2⟩ := h
  by_cases c : HT.sIx xs.length 0 lo = 0 ∧ HT.sIx xs.length xs.length hi = xs.length
  · cases rx
    obtain ⟨its, r, ht, hz⟩ := I.tuple hx
    have hlen : its.toArray.size = xs.length := by rw [List.size_toArray]; exact r.length.symm
    refine ⟨"tuple", _, PyProof.Rows.slot_tuple_getitem.lookup, ht.typeIs, ?_⟩
    refine cut_whole ht hs pl pu (by rw [hlen]; exact c) ⟨.ref a, H, I, rfl, q1 ?_⟩
    unfold cutV
    rw [c.1, c.2]; simp
  · exact sl_tupN pins s σ H (.ref a) v vl vu lo hi sl Q I rx hs pl pu ⟨a, xs, rfl, hx, c, q2⟩
def rCatTA (K : PySem.W.Frag) : R2 := fun x y H Q => ∃ a b xs ys, x = .ref a ∧ y = .ref b ∧ SqT K H a xs ∧ SqT K H b ys ∧ xs.length + ys.length ≤ sizeLine ∧ (xs = [] → Q (.ref b) H) ∧ (xs ≠ [] → ys = [] → Q (.ref a) H) ∧ (xs ≠ [] → ys ≠ [] → ∀ p H', New H p (.tup (xs ++ ys)) H' → Q (.ref p) H')
theorem op_catTA : OpR X (binaryOp .Add) (rCatTA X.K) := by
  intro pins s σ H x y v u Q I rx ry h
  obtain ⟨a, b, xs, ys, rfl, rfl, ha, hb, hz, q0, q1, q2⟩ := h
  by_cases c : xs = []
  · cases rx
    cases ry
    obtain ⟨its, r1, p1, _⟩ := I.tuple ha
    obtain ⟨its2, r2, p2, _⟩ := I.tuple hb
    have e0 : its = [] := r1.nil_iff.mpr c
    subst e0
    obtain ⟨⟨cls, dd, data, sl⟩, ho, hc, n, hd⟩ := id p1
    obtain ⟨⟨cls2, dd2, data2, sl2⟩, ho2, hc2, n2, hd2⟩ := id p2
    simp only at hc hd hc2 hd2
    subst hc hd hc2 hd2
    exact concat_meets ⟨_, ho, rfl⟩ ⟨_, ho2, rfl⟩ noFill_tuple_add seq_tuple_add PySem.F.slot_tuple_add PySem.F.entry_tuple_add (PySem.F.args_tuple_add_2 _ _) (tuple_addW0 a b _ _ n n2 dd dd2 sl sl2 (by simp)) ⟨ho, ho2, ⟨.ref b, H, I, rfl, q0 c⟩⟩
  · exact op_catT pins s σ H (.ref a) (.ref b) v u Q I rx ry ⟨a, b, xs, ys, rfl, rfl, ha, hb, c, hz, q1 c, fun d p hp => q2 c d p _ ⟨hp, rfl⟩⟩
def rNeNilT (K : PySem.W.Frag) : R2 := fun x y H Q => ∃ a b xs, x = .ref a ∧ y = .ref b ∧ SqT K H a xs ∧ SqT K H b [] ∧ Q (.bl (!xs.isEmpty)) H
end
end L2
namespace L2
open PySem PySem.Spec PyProof.Rows
def b01 (b : Bool) : Int := if b = true then 1 else 0
def numV : V → Option Int
  | .int i => some i
  | .bl b => some (b01 b)
  | _ => none
section
variable {X : Cx}
theorem op_addL : OpR X (binaryOp .Add) (fun x y H Q => ∃ i j, numV x = some i ∧ y = .int j ∧ Q (.int (i + j)) H) := by
  intro pins s σ H x y v u Q I rx ry h
  obtain ⟨i, j, hx, rfl, q⟩ := h
  cases x with
  | int k => cases hx; exact op_add pins s σ H _ _ v u Q I rx ry ⟨_, j, rfl, rfl, q⟩
  | bl b =>
    cases hx
    cases rx
    obtain ⟨t', rfl⟩ := ry
    exact PySem.IntBool.add_bool_int ⟨.int (b01 b + j), H, I.tok _, ⟨_, rfl⟩, q⟩
  | _ => cases hx
theorem op_subL : OpR X (binaryOp .Sub) (fun x y H Q => ∃ i j, numV x = some i ∧ y = .int j ∧ Q (.int (i - j)) H) := by
  intro pins s σ H x y v u Q I rx ry h
  obtain ⟨i, j, hx, rfl, q⟩ := h
  cases x with
  | int k => cases hx; exact op_sub pins s σ H _ _ v u Q I rx ry ⟨_, j, rfl, rfl, q⟩
  | bl b =>
    cases hx
    cases rx
    obtain ⟨t', rfl⟩ := ry
    exact PySem.IntBool.sub_bool_int ⟨.int (b01 b - j), H, I.tok _, ⟨_, rfl⟩, q⟩
  | _ => cases hx
theorem op_subR : OpR X (binaryOp .Sub) (fun x y H Q => ∃ i j, x = .int i ∧ numV y = some j ∧ Q (.int (i - j)) H) := by
  intro pins s σ H x y v u Q I rx ry h
  obtain ⟨i, j, rfl, hy, q⟩ := h
  cases y with
  | int k => cases hy; exact op_sub pins s σ H _ _ v u Q I rx ry ⟨i, _, rfl, rfl, q⟩
  | bl b =>
    cases hy
    cases ry
    obtain ⟨t', rfl⟩ := rx
    exact PySem.IntBool.sub_int_bool ⟨.int (i - b01 b), H, I.tok _, ⟨_, rfl⟩, q⟩
  | _ => cases hy
end
end L2
namespace L2
open PySem PySem.Spec PyProof.Rows
section
variable {X : Cx}
def rSlS : V → Option Int → Option Int → Hp → VK → Prop := fun x lo hi H Q => ∃ z, x = .str z ∧ z.length ≤ sizeLine ∧ ∀ z' : Str, (∀ c ∈ z'.cps.toList, c ∈ z.cps.toList) → z'.length ≤ z.length → Q (.str z') H
theorem part_of {v : Value} {o : Option Int} (p : IsPart v o) : ∃ q : Option (Int × Tok), v = partValue q ∧ q.map (·.1) = o := by
  cases p with
  | none => exact ⟨none, rfl, rfl⟩
  | int i t => exact ⟨some (i, t), rfl, rfl⟩
end
end L2
namespace L2
open PySem PySem.Spec PyProof.Rows
section
open HT
variable {prog : Program} {w : World} {A : Around} {E : Value → Shared → Prop} {s : Shared}
theorem fm_congr {α β : Type} {f g : α → Option β} : ∀ {l : List α}, (∀ m ∈ l, f m = g m) → l.filterMap f = l.filterMap g
  | [], _ => rfl
  | a :: r, h => by
    rw [List.filterMap_cons, List.filterMap_cons, h a List.mem_cons_self, fm_congr fun m hm => h m (List.mem_cons_of_mem _ hm)]
theorem rev_pick (xs : Array Value) : (List.range xs.size).filterMap (fun (m : Nat) => xs[(((xs.size : Nat) : Int) - 1 + (m : Int) * (-1)).toNat]?) = xs.toList.reverse := by
  have e : ∀ m ∈ List.range xs.size, xs[(((xs.size : Nat) : Int) - 1 + (m : Int) * (-1)).toNat]? = some (xs.toList.reverse.getD m .none) := fun m hm => by
    have hm' : m < xs.size := by simpa using hm
    have e1 : (((xs.size : Nat) : Int) - 1 + (m : Int) * (-1)).toNat = xs.size - 1 - m := by omega
    rw [e1, ← Array.getElem?_toList, List.getD_eq_getElem?_getD, List.getElem?_reverse (by simpa using hm')]
    rw [Array.length_toList, List.getElem?_eq_getElem (by simp; omega)]
    rfl
  rw [fm_congr e]
  refine List.ext_getElem? fun j => ?_
  have fm : (List.range xs.size).filterMap (fun m => some (xs.toList.reverse.getD m .none)) = (List.range xs.size).map (fun m => xs.toList.reverse.getD m .none) := by
    rw [← List.filterMap_eq_map]; rfl
  rw [fm, List.getElem?_map]
  by_cases c : j < xs.size
  · rw [List.getElem?_range c, Option.map_some, List.getD_eq_getElem?_getD, List.getElem?_eq_getElem (by simpa using c)]; rfl
  · rw [List.getElem?_eq_none (by simpa using c), List.getElem?_eq_none (by simpa using c)]; rfl
theorem cut_rev {t sl : Addr} {items : Array Value} {tk : Tok} {os : Obj} {Q : Value → Shared → Prop} (ht : IsTup s.heap t items) (hos : s.heap.get? sl = some os) (hcs : os.cls = .type "slice") (hds : os.data = .fields #[.none, .none, .int (-1) tk])
    (h : Q (.ref s.heap.objs.size) { s with heap := s.heap.push { cls := .type "tuple", data := .seq items.toList.reverse.toArray } }) (hsz : items.size ≤ sizeLine) : wpAny (model prog w) A (getItem (.ref t) (.ref sl)) Q E s := by
  have hTs : s.TypeIs (.ref sl) "slice" := ⟨os, hos, hcs⟩
  unfold getItem
  try with_reducible refine wpAny_holding ?_
  first | refine wpAny_bind (wpAny_pure ?_) | skip
  refine wpAny_bind (wpAny_sequenceKey ht.typeIs (by decide) (wpAny_bind (wpAny_callSpecial?_slot (name := Str.ofString "__getitem__") ht.typeIs PyProof.Rows.slot_tuple_getitem
    (wpAny_call_entry PyProof.Rows.slot_tuple_getitem ht.typeIs entry_tuple_getitem ?_ (args_tuple_getitem _ _)))))
  show wpAny _ _ (Builtin.Tuple.tupleItemsOf (.ref t) >>= _) _ _ s
  refine wpAny_bind (tupleItemsOf_ ht (wpAny_bind (wpAny_typeOf hTs ?_)))
  rw [if_pos (by decide)]
  refine wpAny_bind ?_
  unfold Builtin.Slice.sliceApplied Builtin.Slice.sliceFields
  refine wpAny_bind (wpAny_bind (wpAny_field hos hds (x := .none) rfl (wpAny_bind (wpAny_field hos hds (x := .none) rfl (wpAny_bind (wpAny_field hos hds (x := .int (-1) tk) rfl (wpAny_pure ?_)))))))
  refine wpAny_bind (slicePart_int ?_)
  show wpAny _ _ (if ((-1 : Int) == 0) = true then _ else _) _ _ s
  rw [if_neg (by decide)]
  refine wpAny_bind (slicePart_none (wpAny_bind (slicePart_none (wpAny_bind (wpAny_pure ?_)))))
  have adj : Builtin.Slice.sliceAdjust none none (-1) (items.size : Int) = ((items.size : Int) - 1, -1) := by
    unfold Builtin.Slice.sliceAdjust
    simp
  have pls : Builtin.Slice.slicePlaces ((items.size : Int) - 1) (-1) (-1) = items.size := by
    unfold Builtin.Slice.slicePlaces
    simp only [show ¬ ((-1 : Int) > 0) by decide, if_false]
    split <;> (try simp) <;> omega
  show wpAny _ _ (match Builtin.Slice.sliceAdjust none none (-1) (items.size : Int) with | (lo, hi) => pure (lo, (-1 : Int), Builtin.Slice.slicePlaces lo hi (-1))) _ _ s
  rw [adj]
  show wpAny _ _ (pure ((items.size : Int) - 1, (-1 : Int), Builtin.Slice.slicePlaces ((items.size : Int) - 1) (-1) (-1))) _ _ s
  rw [pls]
  refine wpAny_pure ?_
  show wpAny _ _ (if (((items.size : Int) - 1) == 0 && (-1 : Int) == 1 && items.size == items.size) = true then _ else _) _ _ s
  rw [if_neg (by simp), rev_pick]
  have hk : sizeOk (.seq items.toList.reverse.toArray) := by
    show items.toList.reverse.toArray.size ≤ sizeLine
    simpa using hsz
  first
    | exact wpAny_bind (m := Builtin.Tuple.tupleExact _) (wpAny_newObj_type (wpAny_pure ⟨_, rfl, wpAny_pure h⟩) hk)
    | exact wpAny_bind (m := Builtin.Tuple.tupleExact _) (wpAny_newObj_type (wpAny_bind (wpAny_pure (wpAny_pure ⟨_, rfl, wpAny_pure h⟩))) hk)
end
section
variable {X : Cx} {e st : Expr} {te ts : TE} {p2 pos : Pos}
def tRev (K : PySem.W.Frag) (te ts : TE) : TE := fun σ H Q => te σ H fun x H1 => ts σ H1 fun y H2 => ∃ a xs, x = .ref a ∧ y = .int (-1) ∧ SqT K H2 a xs ∧ ∀ p H', New H2 p (.tup xs.reverse) H' → Q (.ref p) H'
theorem vals_rev {xs : List V} {us : List Value} (r : Vals xs us) : Vals xs.reverse us.reverse := by
  induction r with
  | nil => exact .nil
  | cons a _ ih => rw [List.reverse_cons, List.reverse_cons]; exact ih.append (.cons a .nil)
theorem pe_rev (he : PE X e te) (hst : PE X st ts) : PE X (.Subscript e (.Slice none none (some st) p2) pos) (tRev X.K te ts) := by
  refine ⟨?_⟩
  intro pins s σ H Q I h
  refine Subscript_ (thn (he pins s σ H _ I h) fun v s1 ⟨x, H1, I1, r1, q1⟩ => ?_)
  refine wpAny_Slice ?_
  rw [evalPart_none]
  (refine wpAny_pure (wpAny_pure ?_))
  refine thn (hst pins s1 σ H1 _ I1 q1) fun sv s2 ⟨y, H2, I2, r2, a, xs, ex, ey, hq, q⟩ => ?_
  subst ex ey
  cases r1
  obtain ⟨tk, rfl⟩ := r2
  have I4 : Inv X pins σ H2 { s2 with heap := s2.heap.push { cls := .type "slice", data := .fields #[.none, .none, .int (-1) tk] } } := I2.kept (t' := s2.toks) fun b ob q => Heap.get?_push_of_some _ q
  obtain ⟨its, rv, ht, hz⟩ := I4.tuple hq
  have hlen : its.toArray.size = xs.length := by rw [List.size_toArray]; exact rv.length.symm
  show wpAny (model X.prog X.w) X.A (subscriptTail e (.Slice none none (some st) p2) (.ref a) (.ref s2.heap.objs.size)) (EP X pins σ Q) X.xe { s2 with heap := s2.heap.push { cls := .type "slice", data := .fields #[.none, .none, .int (-1) tk] } }
  refine tail_any (ops := [.ref a, .ref s2.heap.objs.size]) ht.typeIs PyProof.Rows.slot_tuple_getitem.lookup ?_ (by with_unfolding_all rfl)
  refine cut_rev (tk := tk) ht (Heap.get?_push_size _ rfl) rfl rfl ?_ (by rw [hlen]; exact hz)
  refine ⟨.ref _, _, I4.laid (t' := s2.toks) (o := .tup xs.reverse) (fun b ob q => Heap.get?_push_of_some _ q) (Nat.le_refl _) ?_, rfl, q _ _ ⟨I4.hok.fresh (Nat.le_refl _), rfl⟩⟩
  exact ⟨by rw [List.length_reverse]; exact hz, _, vals_rev rv, IsTup.new _ _⟩
end
end L2
namespace PF
open PySem PySem.Spec
open L2
inductive D where
  | da (d : PyData) | con (ds : List PyData) | frz (ds : List PyData) | set (ds : List PyData)
  | ref (n : Nat) | adr (a : Addr) | ty (n : String)
abbrev D.non : D := .da .none
abbrev D.bl (b : Bool) : D := .da (.bool b)
abbrev D.int (i : Int) : D := .da (.int i)
abbrev D.str (x : Str) : D := .da (.str x)
abbrev D.tup (ds : List PyData) : D := .da (.tuple ds)
abbrev D.lst (ds : List PyData) : D := .da (.list ds)
inductive O where
  | lst (ds : List D) | dct (ks vs : List D) | set (ds : List D) | ins (C : Addr) (fs : List (Str × D)) | gone
abbrev S := List O
inductive R (α : Type) where
  | ok (a : α) (s : S)
  | bad
def R.bind {α β : Type} (r : R α) (f : α → S → R β) : R β := match r with
  | .ok a s => f a s
  | .bad => .bad
theorem R.bind_ok {α β : Type} (a : α) (s : S) (f : α → S → R β) : (R.ok a s).bind f = f a s := rfl
def R.W {α : Type} (r : R α) (Q : α → S → Prop) : Prop := match r with
  | .ok a s => Q a s
  | .bad => False
theorem R.W_ok {α : Type} (a : α) (s : S) (Q : α → S → Prop) : (R.ok a s).W Q = Q a s := rfl
theorem R.W_bind {α β : Type} (r : R α) (f : α → S → R β) (Q : β → S → Prop) : (r.bind f).W Q = r.W fun a s => (f a s).W Q := by cases r <;> rfl
theorem R.W_mono {α : Type} {r : R α} {Q Q' : α → S → Prop} (h : r.W Q) (k : ∀ a s, Q a s → Q' a s) : r.W Q' := by
  cases r with
  | ok a s => exact k a s h
  | bad => exact h
structure As where
  ix : List (Option Addr)
  hd : List Addr
def As.has (as : As) (p : Addr) : Prop := some p ∈ as.ix ∨ p ∈ as.hd
abbrev As.add (as : As) (p : Addr) : As := { as with ix := as.ix ++ [some p] }
abbrev As.cut (as : As) (n : Nat) : As := { as with ix := as.ix.set n none }
abbrev As.hide (as : As) (p : Addr) : As := { as with hd := p :: as.hd }
abbrev As.show (as : As) (p : Addr) : As := { as with hd := as.hd.filter fun q => decide (q ≠ p) }
structure Step0 (as : As) (H : Hp) (as' : As) (H' : Hp) : Prop where
  len : as.ix.length ≤ as'.ix.length
  old : ∀ n : Nat, n < as.ix.length → as'.ix[n]? = as.ix[n]? ∨ as'.ix[n]? = some none
  back : ∀ p, as'.has p → as.has p ∨ H p = none
  keep : ∀ b o, ¬ as.has b → H b = some o → H' b = some o
  dom : ∀ b, H b ≠ none → H' b ≠ none
structure Step (as : As) (H : Hp) (as' : As) (H' : Hp) : Prop extends Step0 as H as' H' where
  hk : ∀ p ∈ as.hd, p ∈ as'.hd
  hh : ∀ p ∈ as.hd, ∀ o, H p = some o → H' p = some o
theorem Step.refl (as : As) (H : Hp) : Step as H as H where
  len := Nat.le_refl _
  old _ _ := .inl rfl
  back _ h := .inl h
  keep _ _ _ e := e
  dom _ e := e
  hk _ h := h
  hh _ _ _ e := e
theorem mem_as {as : As} {p : Addr} : some p ∈ as.ix ↔ ∃ n : Nat, as.ix[n]? = some (some p) := by
  rw [List.mem_iff_getElem?]
theorem Step0.out {as as' : As} {H H' : Hp} (st : Step0 as H as' H') {b : Addr} {o : HO} (n : ¬ as.has b) (e : H b = some o) : ¬ as'.has b := fun m => by
  rcases st.back b m with q | q
  · exact n q
  · rw [e] at q; cases q
theorem Step.out {as as' : As} {H H' : Hp} (st : Step as H as' H') {b : Addr} {o : HO} (n : ¬ as.has b) (e : H b = some o) : ¬ as'.has b := st.toStep0.out n e
theorem Step0.trans {as as1 as2 : As} {H H1 H2 : Hp} (a : Step0 as H as1 H1) (b : Step0 as1 H1 as2 H2) : Step0 as H as2 H2 where
  len := Nat.le_trans a.len b.len
  old n hn := by
    rcases b.old n (Nat.lt_of_lt_of_le hn a.len) with q | q
    · rw [q]; exact a.old n hn
    · exact .inr q
  back p h := by
    rcases b.back p h with q | q
    · exact a.back p q
    · right
      cases z : H p with
      | none => rfl
      | some o => exact absurd q (a.dom p (by rw [z]; simp))
  keep b' o n e := b.keep b' o (a.out n e) (a.keep b' o n e)
  dom b' e := b.dom b' (a.dom b' e)
theorem Step.trans {as as1 as2 : As} {H H1 H2 : Hp} (a : Step as H as1 H1) (b : Step as1 H1 as2 H2) : Step as H as2 H2 := ⟨a.toStep0.trans b.toStep0, fun p h => b.hk p (a.hk p h), fun p h o e => b.hh p (a.hk p h) o (a.hh p h o e)⟩
mutual
inductive TD (as : As) (H : Hp) : V → PyData → Prop
  | non : TD as H .non .none
  | bl (b : Bool) : TD as H (.bl b) (.bool b)
  | int (i : Int) : TD as H (.int i) (.int i)
  | str (x : Str) : TD as H (.str x) (.str x)
  | tup {p : Addr} {xs : List V} {ds : List PyData} : ¬ as.has p → H p = some (.tup xs) → TDs as H xs ds → TD as H (.ref p) (.tuple ds)
  | lst {p : Addr} {xs : List V} {ds : List PyData} : ¬ as.has p → H p = some (.lst xs) → TDs as H xs ds → TD as H (.ref p) (.list ds)
inductive TDs (as : As) (H : Hp) : List V → List PyData → Prop
  | nil : TDs as H [] []
  | cons {x : V} {xs : List V} {d : PyData} {ds : List PyData} : TD as H x d → TDs as H xs ds → TDs as H (x :: xs) (d :: ds)
end
inductive RD (K : PySem.W.Frag) (as : As) (H : Hp) : V → D → Prop
  | da {v : V} {d : PyData} : TD as H v d → RD K as H v (.da d)
  | ty (n : String) : RD K as H (.ty n) (.ty n)
  | adr (a : Addr) : RD K as H (.ref a) (.adr a)
  | con {p : Addr} {xs : List V} {ds : List PyData} : (∀ H', SqT K H' p xs) → TDs as H xs ds → RD K as H (.ref p) (.con ds)
  | frz {p : Addr} {xs : List V} {ds : List PyData} : (∀ as' H', Step0 as H as' H' → SqL K H' p xs) → TDs as H xs ds → RD K as H (.ref p) (.frz ds)
  | ref {p : Addr} {n : Nat} : n < as.ix.length → (∀ q, as.ix[n]? = some (some q) → q = p) → RD K as H (.ref p) (.ref n)
inductive RDs (K : PySem.W.Frag) (as : As) (H : Hp) : List V → List D → Prop
  | nil : RDs K as H [] []
  | cons {x : V} {xs : List V} {d : D} {ds : List D} : RD K as H x d → RDs K as H xs ds → RDs K as H (x :: xs) (d :: ds)
def RO (K : PySem.W.Frag) (as : As) (H : Hp) (p : Addr) : O → Prop
  | .lst ds => ∃ xs, H p = some (.lst xs) ∧ RDs K as H xs ds
  | _ => False
structure Rel (K : PySem.W.Frag) (as : As) (H : Hp) (s : S) : Prop where
  len : as.ix.length = s.length
  nd : ∀ (i j : Nat) (p : Addr), as.ix[i]? = some (some p) → as.ix[j]? = some (some p) → i = j
  ob : ∀ (n : Nat) (p : Addr) (o : O), as.ix[n]? = some (some p) → s[n]? = some o → RO K as H p o
  li : ∀ (n : Nat) (o : O), s[n]? = some o → o ≠ .gone → ∃ p, as.ix[n]? = some (some p)
  hs : ∀ p ∈ as.hd, H p ≠ none
  hx : ∀ p ∈ as.hd, some p ∉ as.ix
mutual
theorem TD.mono0 {as as' : As} {H H' : Hp} (st : Step0 as H as' H') : ∀ {v : V} {d : PyData}, TD as H v d → TD as' H' v d
  | _, _, .non => .non
  | _, _, .bl b => .bl b
  | _, _, .int i => .int i
  | _, _, .str x => .str x
  | _, _, .tup n e r => .tup (st.out n e) (st.keep _ _ n e) (TDs.mono0 st r)
  | _, _, .lst n e r => .lst (st.out n e) (st.keep _ _ n e) (TDs.mono0 st r)
theorem TDs.mono0 {as as' : As} {H H' : Hp} (st : Step0 as H as' H') : ∀ {vs : List V} {ds : List PyData}, TDs as H vs ds → TDs as' H' vs ds
  | _, _, .nil => .nil
  | _, _, .cons a r => .cons (TD.mono0 st a) (TDs.mono0 st r)
end
theorem RD.mono0 {K : PySem.W.Frag} {as as' : As} {H H' : Hp} (st : Step0 as H as' H') {v : V} {d : D} (h : RD K as H v d) : RD K as' H' v d := by
  cases h with
  | da t => exact .da (t.mono0 st)
  | ty n => exact .ty n
  | adr a => exact .adr a
  | con h r => exact .con h (r.mono0 st)
  | frz h r => exact .frz (fun as' H' s2 => h as' H' (st.trans s2)) (r.mono0 st)
  | ref l h =>
    refine .ref (Nat.lt_of_lt_of_le l st.len) fun q e => ?_
    rcases st.old _ l with z | z
    · rw [z] at e; exact h q e
    · rw [z] at e; cases e
theorem RDs.mono0 {K : PySem.W.Frag} {as as' : As} {H H' : Hp} (st : Step0 as H as' H') : ∀ {vs : List V} {ds : List D}, RDs K as H vs ds → RDs K as' H' vs ds
  | _, _, .nil => .nil
  | _, _, .cons a r => .cons (RD.mono0 st a) (RDs.mono0 st r)
theorem TD.mono {as as' : As} {H H' : Hp} (st : Step as H as' H') {v : V} {d : PyData} (h : TD as H v d) : TD as' H' v d := h.mono0 st.toStep0
theorem TDs.mono {as as' : As} {H H' : Hp} (st : Step as H as' H') {v : List V} {d : List PyData} (h : TDs as H v d) : TDs as' H' v d := h.mono0 st.toStep0
theorem RD.mono {K : PySem.W.Frag} {as as' : As} {H H' : Hp} (st : Step as H as' H') {v : V} {d : D} (h : RD K as H v d) : RD K as' H' v d := h.mono0 st.toStep0
theorem RDs.mono {K : PySem.W.Frag} {as as' : As} {H H' : Hp} (st : Step as H as' H') {v : List V} {d : List D} (h : RDs K as H v d) : RDs K as' H' v d := h.mono0 st.toStep0
section
variable {K : PySem.W.Frag} {as : As} {H : Hp}
theorem RDs.length : ∀ {vs : List V} {ds : List D}, RDs K as H vs ds → vs.length = ds.length
  | _, _, .nil => rfl
  | _, _, .cons _ r => congrArg (· + 1) (RDs.length r)
theorem RDs.append : ∀ {vs ws : List V} {ds es : List D}, RDs K as H vs ds → RDs K as H ws es → RDs K as H (vs ++ ws) (ds ++ es)
  | _, _, _, _, .nil, s => s
  | _, _, _, _, .cons a r, s => .cons a (RDs.append r s)
theorem RDs.get : ∀ {vs : List V} {ds : List D} {i : Nat} {d : D}, RDs K as H vs ds → ds[i]? = some d → ∃ v, vs[i]? = some v ∧ RD K as H v d
  | _, _, _, _, .nil, e => by simp at e
  | _, _, 0, _, .cons a _, e => by simp at e; subst e; exact ⟨_, rfl, a⟩
  | _, _, i + 1, d, .cons _ r, e => by
    obtain ⟨v, h1, h2⟩ := RDs.get (i := i) (d := d) r (by simpa using e)
    exact ⟨v, by simpa using h1, h2⟩
theorem RDs.set : ∀ {vs : List V} {ds : List D} (i : Nat) {v : V} {d : D}, RD K as H v d → RDs K as H vs ds → RDs K as H (vs.set i v) (ds.set i d)
  | _, _, _, _, _, _, .nil => .nil
  | _, _, 0, _, _, r, .cons _ t => .cons r t
  | _, _, i + 1, _, _, r, .cons q t => .cons q (RDs.set i r t)
theorem RDs.take : ∀ {vs : List V} {ds : List D} (n : Nat), RDs K as H vs ds → RDs K as H (vs.take n) (ds.take n)
  | _, _, 0, _ => .nil
  | _, _, _ + 1, .nil => .nil
  | _, _, n + 1, .cons r t => .cons r (RDs.take n t)
theorem RDs.drop : ∀ {vs : List V} {ds : List D} (n : Nat), RDs K as H vs ds → RDs K as H (vs.drop n) (ds.drop n)
  | _, _, 0, r => r
  | _, _, _ + 1, .nil => .nil
  | _, _, n + 1, .cons _ t => RDs.drop n t
theorem RDs.reverse : ∀ {vs : List V} {ds : List D}, RDs K as H vs ds → RDs K as H vs.reverse ds.reverse
  | _, _, .nil => .nil
  | _, _, .cons a r => by rw [List.reverse_cons, List.reverse_cons]; exact (RDs.reverse r).append (.cons a .nil)
theorem RDs.eraseIdx : ∀ {vs : List V} {ds : List D} (n : Nat), RDs K as H vs ds → RDs K as H (vs.eraseIdx n) (ds.eraseIdx n)
  | _, _, _, .nil => .nil
  | _, _, 0, .cons _ t => t
  | _, _, n + 1, .cons r t => .cons r (RDs.eraseIdx n t)
theorem RDs.dropLast {vs : List V} {ds : List D} (r : RDs K as H vs ds) : RDs K as H vs.dropLast ds.dropLast := by
  rw [List.dropLast_eq_take, List.dropLast_eq_take, r.length]; exact r.take _
end
section
variable {as : As} {H : Hp}
theorem TDs.length : ∀ {vs : List V} {ds : List PyData}, TDs as H vs ds → vs.length = ds.length
  | _, _, .nil => rfl
  | _, _, .cons _ r => congrArg (· + 1) (TDs.length r)
theorem TDs.append : ∀ {vs ws : List V} {ds es : List PyData}, TDs as H vs ds → TDs as H ws es → TDs as H (vs ++ ws) (ds ++ es)
  | _, _, _, _, .nil, s => s
  | _, _, _, _, .cons a r, s => .cons a (TDs.append r s)
theorem TDs.get : ∀ {vs : List V} {ds : List PyData} {i : Nat} {d : PyData}, TDs as H vs ds → ds[i]? = some d → ∃ v, vs[i]? = some v ∧ TD as H v d
  | _, _, _, _, .nil, e => by simp at e
  | _, _, 0, _, .cons a _, e => by simp at e; subst e; exact ⟨_, rfl, a⟩
  | _, _, i + 1, d, .cons _ r, e => by
    obtain ⟨v, h1, h2⟩ := TDs.get (i := i) (d := d) r (by simpa using e)
    exact ⟨v, by simpa using h1, h2⟩
theorem TDs.set : ∀ {vs : List V} {ds : List PyData} (i : Nat) {v : V} {d : PyData}, TD as H v d → TDs as H vs ds → TDs as H (vs.set i v) (ds.set i d)
  | _, _, _, _, _, _, .nil => .nil
  | _, _, 0, _, _, r, .cons _ t => .cons r t
  | _, _, i + 1, _, _, r, .cons q t => .cons q (TDs.set i r t)
theorem TDs.take : ∀ {vs : List V} {ds : List PyData} (n : Nat), TDs as H vs ds → TDs as H (vs.take n) (ds.take n)
  | _, _, 0, _ => .nil
  | _, _, _ + 1, .nil => .nil
  | _, _, n + 1, .cons r t => .cons r (TDs.take n t)
theorem TDs.drop : ∀ {vs : List V} {ds : List PyData} (n : Nat), TDs as H vs ds → TDs as H (vs.drop n) (ds.drop n)
  | _, _, 0, r => r
  | _, _, _ + 1, .nil => .nil
  | _, _, n + 1, .cons _ t => TDs.drop n t
theorem TDs.reverse : ∀ {vs : List V} {ds : List PyData}, TDs as H vs ds → TDs as H vs.reverse ds.reverse
  | _, _, .nil => .nil
  | _, _, .cons a r => by rw [List.reverse_cons, List.reverse_cons]; exact (TDs.reverse r).append (.cons a .nil)
theorem TDs.eraseIdx : ∀ {vs : List V} {ds : List PyData} (n : Nat), TDs as H vs ds → TDs as H (vs.eraseIdx n) (ds.eraseIdx n)
  | _, _, _, .nil => .nil
  | _, _, 0, .cons _ t => t
  | _, _, n + 1, .cons r t => .cons r (TDs.eraseIdx n t)
theorem TDs.dropLast {vs : List V} {ds : List PyData} (r : TDs as H vs ds) : TDs as H vs.dropLast ds.dropLast := by
  rw [List.dropLast_eq_take, List.dropLast_eq_take, r.length]; exact r.take _
end
theorem TDs.rd {K : PySem.W.Frag} {as : As} {H : Hp} : ∀ {vs : List V} {ds : List PyData}, TDs as H vs ds → RDs K as H vs (ds.map D.da)
  | _, _, .nil => .nil
  | _, _, .cons a r => .cons (.da a) (TDs.rd r)
def pures : List D → Option (List PyData)
  | [] => some []
  | .da d :: r => match pures r with
    | some ds => some (d :: ds)
    | none => none
  | _ => none
theorem pures_da : ∀ ds : List PyData, pures (ds.map D.da) = some ds
  | [] => rfl
  | d :: r => by rw [List.map_cons, pures, pures_da r]
theorem pures_eq : ∀ {ds : List D} {xs : List PyData}, pures ds = some xs → ds = xs.map D.da
  | [], xs, h => by cases h; rfl
  | .da d :: r, xs, h => by
    rw [pures] at h
    cases q : pures r with
    | none => rw [q] at h; cases h
    | some ys => rw [q] at h; cases h; rw [pures_eq q]; rfl
  | .con _ :: _, _, h => by cases h
  | .frz _ :: _, _, h => by cases h
  | .set _ :: _, _, h => by cases h
  | .ref _ :: _, _, h => by cases h
  | .adr _ :: _, _, h => by cases h
  | .ty _ :: _, _, h => by cases h
theorem RDs.td {K : PySem.W.Frag} {as : As} {H : Hp} : ∀ {vs : List V} {ds : List PyData}, RDs K as H vs (ds.map D.da) → TDs as H vs ds
  | _, [], h => by cases h; exact .nil
  | _, d :: r, h => by
    cases h with
    | cons a b => cases a with | da a => exact .cons a (RDs.td b)
theorem dom_new {H H' : Hp} {p b : Addr} {o : HO} (n : New H p o H') (e : H b ≠ none) : H' b ≠ none := by
  cases q : H b with
  | none => exact absurd q e
  | some u => rw [n.keep q]; simp
theorem step_new {as : As} {H H' : Hp} {p : Addr} {o : HO} (n : New H p o H') : Step as H as H' where
  len := Nat.le_refl _
  old _ _ := .inl rfl
  back _ h := .inl h
  keep _ _ _ e := n.keep e
  dom _ e := dom_new n e
  hk _ h := h
  hh _ _ _ e := n.keep e
theorem get_snoc {α : Type} {l : List α} {x y : α} {i : Nat} (e : (l ++ [x])[i]? = some y) : (i < l.length ∧ l[i]? = some y) ∨ (i = l.length ∧ y = x) := by
  by_cases h : i < l.length
  · rw [List.getElem?_append_left h] at e; exact .inl ⟨h, e⟩
  · have h2 : i - l.length = 0 ∨ 1 ≤ i - l.length := by omega
    rw [List.getElem?_append_right (Nat.le_of_not_lt h)] at e
    rcases h2 with z | z
    · rw [z] at e
      simp at e
      exact .inr ⟨by omega, e.symm⟩
    · rw [List.getElem?_eq_none_iff.mpr (by simpa using z)] at e
      cases e
theorem has_add {as : As} {p q : Addr} (h : (as.add p).has q) : as.has q ∨ q = p := by
  rcases h with h | h
  · rcases List.mem_append.mp h with z | z
    · exact .inl (.inl z)
    · exact .inr (by simpa using z)
  · exact .inl (.inr h)
theorem step_laid {as : As} {H H' : Hp} {p : Addr} {o : HO} (n : New H p o H') : Step as H (as.add p) H' where
  len := by simp
  old i h := .inl (List.getElem?_append_left h)
  back q h := by
    rcases has_add h with z | z
    · exact .inl z
    · subst z; exact .inr n.no
  keep _ _ _ e := n.keep e
  dom _ e := dom_new n e
  hk _ h := h
  hh _ _ _ e := n.keep e
theorem step0_chg {as : As} {H H' : Hp} {p : Addr} {o : HO} (m : as.has p) (c : Chg H p o H') : Step0 as H as H' where
  len := Nat.le_refl _
  old _ _ := .inl rfl
  back _ h := .inl h
  keep b u n e := c.keep (fun z => n (z ▸ m)) e
  dom b e := by
    by_cases z : b = p
    · subst z; rw [c.at]; simp
    · cases q : H b with
      | none => exact absurd q e
      | some u => rw [c.keep z q]; simp
theorem step_chg {as : As} {H H' : Hp} {p : Addr} {o : HO} (m : some p ∈ as.ix) (nh : p ∉ as.hd) (c : Chg H p o H') : Step as H as H' := ⟨step0_chg (.inl m) c, fun _ h => h, fun q h u e => c.keep (fun z => nh (z ▸ h)) e⟩
theorem step_own {as as2 : As} {H H1 H2 : Hp} {p : Addr} {o : HO} (st : Step as H as2 H1) (no : H p = none) (nh : p ∉ as.hd) (m : p ∈ as2.hd) (c : Chg H1 p o H2) : Step as H as2 H2 :=
  ⟨⟨st.len, st.old, st.back, fun b u n e => c.keep (ne_of_none e no) (st.keep b u n e), fun b e => (step0_chg (.inr m) c).dom b (st.dom b e)⟩, st.hk, fun q h u e => c.keep (fun z => nh (z ▸ h)) (st.hh q h u e)⟩
theorem cut_ix {as : As} {n i : Nat} {q : Addr} (e : (as.cut n).ix[i]? = some (some q)) : as.ix[i]? = some (some q) := by
  by_cases z : n = i
  · subst z
    rw [List.getElem?_set] at e
    simp at e
  · rw [List.getElem?_set_ne z] at e; exact e
theorem step_frz {as : As} {H : Hp} (n : Nat) : Step as H (as.cut n) H where
  len := by simp
  old i h := by
    by_cases z : n = i
    · subst z; right; simp [h]
    · left; rw [List.getElem?_set_ne z]
  back p h := by
    rcases h with h | h
    · obtain ⟨i, hi⟩ := mem_as.mp h
      exact .inl (.inl (mem_as.mpr ⟨i, cut_ix hi⟩))
    · exact .inl (.inr h)
  keep _ _ _ e := e
  dom _ e := e
  hk _ h := h
  hh _ _ _ e := e
theorem step_hide {as : As} {H H' : Hp} {p : Addr} {o : HO} (n : New H p o H') : Step as H (as.hide p) H' where
  len := Nat.le_refl _
  old _ _ := .inl rfl
  back q h := by
    rcases h with h | h
    · exact .inl (.inl h)
    · rcases List.mem_cons.mp h with z | z
      · subst z; exact .inr n.no
      · exact .inl (.inr z)
  keep _ _ _ e := n.keep e
  dom _ e := dom_new n e
  hk _ h := List.mem_cons_of_mem _ h
  hh _ _ _ e := n.keep e
theorem has_show {as : As} {p q : Addr} (h : (as.show p).has q) : as.has q := by
  rcases h with h | h
  · exact .inl h
  · exact .inr (List.mem_filter.mp h).1
theorem step_show {as : As} {H : Hp} {p : Addr} : Step0 as H (as.show p) H where
  len := Nat.le_refl _
  old _ _ := .inl rfl
  back q h := .inl (has_show h)
  keep _ _ _ e := e
  dom _ e := e
theorem step_take {as : As} {H : Hp} {p : Addr} (m : p ∈ as.hd) : Step0 as H ((as.show p).add p) H where
  len := by simp
  old i h := .inl (List.getElem?_append_left h)
  back q h := by
    rcases has_add h with z | z
    · exact .inl (has_show z)
    · subst z; exact .inl (.inr m)
  keep _ _ _ e := e
  dom _ e := e
theorem step_end {as as2 : As} {H H2 : Hp} {p : Addr} (st : Step as H as2 H2) (nh : p ∉ as.hd) (st2 : Step0 as2 H2 (as2.show p) H2) : Step as H (as2.show p) H2 :=
  ⟨st.toStep0.trans st2, fun q h => List.mem_filter.mpr ⟨st.hk q h, by
    have : q ≠ p := fun z => nh (z ▸ h)
    simp [this]⟩, st.hh⟩
theorem step_end2 {as as2 : As} {H H2 : Hp} {p : Addr} (st : Step as H as2 H2) (nh : p ∉ as.hd) (m : p ∈ as2.hd) : Step as H ((as2.show p).add p) H2 :=
  ⟨st.toStep0.trans (step_take m), fun q h => List.mem_filter.mpr ⟨st.hk q h, by
    have : q ≠ p := fun z => nh (z ▸ h)
    simp [this]⟩, st.hh⟩
section
variable {K : PySem.W.Frag} {as as' : As} {H H' : Hp} {s : S} {p : Addr}
theorem RO.mono0 (st : Step0 as H as' H') {o : O} (e : H' p = H p) (h : RO K as H p o) : RO K as' H' p o := by
  cases o with
  | lst ds =>
    obtain ⟨xs, e1, r⟩ := h
    exact ⟨xs, e.trans e1, r.mono0 st⟩
  | _ => exact h.elim
theorem RO.some {o : O} (h : RO K as H p o) : H p ≠ none := by
  cases o with
  | lst ds =>
    obtain ⟨xs, e1, r⟩ := h
    rw [e1]; simp
  | _ => exact h.elim
theorem Rel.at (r : Rel K as H s) {n : Nat} (e : as.ix[n]? = some (some p)) : H p ≠ none := by
  have hl : n < s.length := by
    rw [← r.len]
    exact (List.getElem?_eq_some_iff.mp e).1
  exact (r.ob n p _ e (List.getElem?_eq_getElem hl)).some
theorem Rel.has (r : Rel K as H s) (h : as.has p) : H p ≠ none := by
  rcases h with h | h
  · obtain ⟨i, hi⟩ := mem_as.mp h
    exact r.at hi
  · exact r.hs p h
theorem same_of {H H' : Hp} {q : Addr} (k : ∀ o, H q = some o → H' q = some o) (h : H q ≠ none) : H' q = H q := by
  cases z : H q with
  | none => exact absurd z h
  | some x => rw [k x z]
theorem Rel.new {o : HO} (r : Rel K as H s) (n : New H p o H') : Rel K as H' s where
  len := r.len
  nd := r.nd
  ob i q u e1 e2 := (r.ob i q u e1 e2).mono0 (step_new n).toStep0 (same_of (fun _ => n.keep) (r.at e1))
  li := r.li
  hs q h := dom_new n (r.hs q h)
  hx := r.hx
theorem Rel.laid {o : HO} {u : O} (r : Rel K as H s) (n : New H p o H') (h : RO K (as.add p) H' p u) : Rel K (as.add p) H' (s ++ [u]) where
  len := by simp [r.len]
  nd i j q e1 e2 := by
    rcases get_snoc e1 with ⟨l1, z1⟩ | ⟨l1, z1⟩ <;> rcases get_snoc e2 with ⟨l2, z2⟩ | ⟨l2, z2⟩
    · exact r.nd i j q z1 z2
    · cases z2; exact absurd n.no (r.at z1)
    · cases z1; exact absurd n.no (r.at z2)
    · rw [l1, l2]
  ob i q x e1 e2 := by
    rcases get_snoc e1 with ⟨l1, z1⟩ | ⟨l1, z1⟩ <;> rcases get_snoc e2 with ⟨l2, z2⟩ | ⟨l2, z2⟩
    · exact (r.ob i q x z1 z2).mono0 (step_laid n).toStep0 (same_of (fun _ => n.keep) (r.at z1))
    · rw [l2, ← r.len] at l1; exact absurd l1 (Nat.lt_irrefl _)
    · rw [l1, r.len] at l2; exact absurd l2 (Nat.lt_irrefl _)
    · cases z1; subst z2; exact h
  li i x e g := by
    rcases get_snoc e with ⟨l1, z1⟩ | ⟨l1, z1⟩
    · obtain ⟨q, hq⟩ := r.li i x z1 g
      exact ⟨q, by rw [List.getElem?_append_left (by rw [r.len]; exact l1)]; exact hq⟩
    · exact ⟨p, by rw [l1, ← r.len]; simp⟩
  hs q h := dom_new n (r.hs q h)
  hx q h m := by
    rcases List.mem_append.mp m with z | z
    · exact r.hx q h z
    · have : q = p := by simpa using z
      subst this
      exact r.hs q h n.no
theorem Rel.chg {o : HO} {u : O} {n : Nat} (r : Rel K as H s) (e : as.ix[n]? = some (some p)) (c : Chg H p o H') (h : RO K as H' p u) : Rel K as H' (s.set n u) where
  len := by simp [r.len]
  nd := r.nd
  ob i q x e1 e2 := by
    by_cases z : n = i
    · subst z
      rw [e] at e1; cases e1
      have hl : n < s.length := by rw [← r.len]; exact (List.getElem?_eq_some_iff.mp e).1
      rw [List.getElem?_set_self hl] at e2
      cases e2; exact h
    · rw [List.getElem?_set_ne z] at e2
      have ne : q ≠ p := fun w => z (r.nd n i p e (w ▸ e1))
      exact (r.ob i q x e1 e2).mono0 (step0_chg (.inl (mem_as.mpr ⟨n, e⟩)) c) (same_of (fun _ => c.keep ne) (r.at e1))
  li i x e2 g := by
    by_cases z : n = i
    · subst z; exact ⟨p, e⟩
    · rw [List.getElem?_set_ne z] at e2
      exact r.li i x e2 g
  hs q h := (step0_chg (.inl (mem_as.mpr ⟨n, e⟩)) c).dom q (r.hs q h)
  hx := r.hx
theorem Rel.chgH {o : HO} (r : Rel K as H s) (m : p ∈ as.hd) (c : Chg H p o H') : Rel K as H' s where
  len := r.len
  nd := r.nd
  ob i q x e1 e2 := by
    have ne : q ≠ p := fun w => r.hx p m (mem_as.mpr ⟨i, w ▸ e1⟩)
    exact (r.ob i q x e1 e2).mono0 (step0_chg (.inr m) c) (same_of (fun _ => c.keep ne) (r.at e1))
  li := r.li
  hs q h := (step0_chg (.inr m) c).dom q (r.hs q h)
  hx := r.hx
theorem Rel.hide {o : HO} (r : Rel K as H s) (n : New H p o H') : Rel K (as.hide p) H' s where
  len := r.len
  nd := r.nd
  ob i q u e1 e2 := (r.ob i q u e1 e2).mono0 (step_hide n).toStep0 (same_of (fun _ => n.keep) (r.at e1))
  li := r.li
  hs q h := by
    rcases List.mem_cons.mp h with z | z
    · subst z; rw [n.at]; simp
    · exact dom_new n (r.hs q z)
  hx q h m := by
    rcases List.mem_cons.mp h with z | z
    · subst z
      obtain ⟨i, hi⟩ := mem_as.mp m
      exact r.at hi n.no
    · exact r.hx q z m
theorem Rel.show (r : Rel K as H s) : Rel K (as.show p) H s where
  len := r.len
  nd := r.nd
  ob i q u e1 e2 := (r.ob i q u e1 e2).mono0 step_show rfl
  li := r.li
  hs q h := r.hs q (List.mem_filter.mp h).1
  hx q h := r.hx q (List.mem_filter.mp h).1
theorem Rel.take {u : O} (r : Rel K as H s) (m : p ∈ as.hd) (h : RO K ((as.show p).add p) H p u) : Rel K ((as.show p).add p) H (s ++ [u]) where
  len := by simp [r.len]
  nd i j q e1 e2 := by
    rcases get_snoc e1 with ⟨l1, z1⟩ | ⟨l1, z1⟩ <;> rcases get_snoc e2 with ⟨l2, z2⟩ | ⟨l2, z2⟩
    · exact r.nd i j q z1 z2
    · cases z2; exact absurd (mem_as.mpr ⟨i, z1⟩) (r.hx p m)
    · cases z1; exact absurd (mem_as.mpr ⟨j, z2⟩) (r.hx p m)
    · rw [l1, l2]
  ob i q x e1 e2 := by
    rcases get_snoc e1 with ⟨l1, z1⟩ | ⟨l1, z1⟩ <;> rcases get_snoc e2 with ⟨l2, z2⟩ | ⟨l2, z2⟩
    · exact (r.ob i q x z1 z2).mono0 (step_take m) rfl
    · rw [l2, ← r.len] at l1; exact absurd l1 (Nat.lt_irrefl _)
    · rw [l1] at l2
      have : as.ix.length < s.length := l2
      rw [r.len] at this; exact absurd this (Nat.lt_irrefl _)
    · cases z1; subst z2; exact h
  li i x e g := by
    rcases get_snoc e with ⟨l1, z1⟩ | ⟨l1, z1⟩
    · obtain ⟨q, hq⟩ := r.li i x z1 g
      exact ⟨q, by rw [List.getElem?_append_left (by rw [r.len]; exact l1)]; exact hq⟩
    · exact ⟨p, by rw [l1, ← r.len]; simp⟩
  hs q h := r.hs q (List.mem_filter.mp h).1
  hx q h m2 := by
    obtain ⟨h1, h2⟩ := List.mem_filter.mp h
    rcases List.mem_append.mp m2 with z | z
    · exact r.hx q h1 z
    · have : q = p := by simpa using z
      exact absurd this (of_decide_eq_true h2)
theorem Rel.frz {n : Nat} (r : Rel K as H s) : Rel K (as.cut n) H (s.set n .gone) where
  len := by simp [r.len]
  nd i j q e1 e2 := by
    exact r.nd i j q (cut_ix e1) (cut_ix e2)
  ob i q x e1 e2 := by
    by_cases z : n = i
    · subst z
      rw [List.getElem?_set] at e1
      simp at e1
    · rw [List.getElem?_set_ne z] at e1 e2
      exact (r.ob i q x e1 e2).mono0 (step_frz n).toStep0 rfl
  li i x e2 g := by
    by_cases z : n = i
    · subst z
      rw [List.getElem?_set] at e2
      simp at e2
      exact absurd e2.2.symm g
    · rw [List.getElem?_set_ne z] at e2 ⊢
      exact r.li i x e2 g
  hs := r.hs
  hx q h m := by
    obtain ⟨i, hi⟩ := mem_as.mp m
    by_cases z : n = i
    · subst z
      rw [List.getElem?_set] at hi
      simp at hi
    · rw [List.getElem?_set_ne z] at hi
      exact r.hx q h (mem_as.mpr ⟨i, hi⟩)
end
end PF
namespace PF
open PySem PySem.Spec
open L2
abbrev En := List (Option D)
structure Envs (K : PySem.W.Frag) (as : As) (H : Hp) (ρ : En) (σ : St) : Prop where
  len : ρ.length = σ.length
  get : ∀ (i : Nat) (d : D), ρ[i]? = some (some d) → ∃ v, σ[i]? = some (some v) ∧ RD K as H v d
theorem Envs.mono {K : PySem.W.Frag} {as as' : As} {H H' : Hp} {ρ : En} {σ : St} (e : Envs K as H ρ σ) (st : Step as H as' H') : Envs K as' H' ρ σ := ⟨e.len, fun i d h => let ⟨v, a, b⟩ := e.get i d h; ⟨v, a, b.mono st⟩⟩
theorem Envs.set {K : PySem.W.Frag} {as : As} {H : Hp} {ρ : En} {σ : St} (e : Envs K as H ρ σ) (i : Nat) {v : V} {d : D} (r : RD K as H v d) : Envs K as H (ρ.set i (some d)) (σ.set i (some v)) := by
  refine ⟨by simp [e.len], fun j x h => ?_⟩
  by_cases z : i = j
  · subst z
    rw [List.getElem?_set] at h ⊢
    by_cases hl : i < ρ.length
    · simp [hl] at h
      subst h
      exact ⟨v, by simp [← e.len, hl], r⟩
    · simp [hl] at h
  · rw [List.getElem?_set_ne z] at h ⊢
    exact e.get j x h
def Dn {α β : Type} (K : PySem.W.Frag) (rel : As → Hp → β → α → Prop) (as : As) (H : Hp) (r : R α) (Q : β → Hp → Prop) : Prop := match r with
  | .ok a s => ∀ b as' H', Step as H as' H' → Rel K as' H' s → rel as' H' b a → Q b H'
  | .bad => False
theorem Dn.step {α β : Type} {K : PySem.W.Frag} {rel : As → Hp → β → α → Prop} {as as1 : As} {H H1 : Hp} {r : R α} {Q : β → Hp → Prop} (h : Dn K rel as H r Q) (st : Step as H as1 H1) : Dn K rel as1 H1 r Q := by
  cases r with
  | ok a s => exact fun b as' H' s2 rl rb => h b as' H' (st.trans s2) rl rb
  | bad => exact h
theorem Dn.bind {α β γ δ : Type} {K : PySem.W.Frag} {r1 : As → Hp → β → α → Prop} {r2 : As → Hp → δ → γ → Prop} {as : As} {H : Hp} {r : R α} {f : α → S → R γ} {Q : δ → Hp → Prop} {Q' : β → Hp → Prop} (h : Dn K r2 as H (r.bind f) Q)
    (k : ∀ a s as1 H1 b, Step as H as1 H1 → Rel K as1 H1 s → r1 as1 H1 b a → Dn K r2 as1 H1 (f a s) Q → Q' b H1) : Dn K r1 as H r Q' := by
  cases r with
  | ok a s => exact fun b as' H' st rl rb => k a s as' H' b st rl rb (Dn.step (r := f a s) h st)
  | bad => exact h
theorem Dn.now {α β : Type} {K : PySem.W.Frag} {rel : As → Hp → β → α → Prop} {as : As} {H : Hp} {a : α} {s : S} {Q : β → Hp → Prop} {b : β} (h : Dn K rel as H (.ok a s) Q) (rl : Rel K as H s) (rb : rel as H b a) : Q b H := h b as H (Step.refl _ _) rl rb
theorem Dn.mono {α β : Type} {K : PySem.W.Frag} {rel : As → Hp → β → α → Prop} {as : As} {H : Hp} {r : R α} {Q Q' : β → Hp → Prop} (h : Dn K rel as H r Q) (k : ∀ b H', Q b H' → Q' b H') : Dn K rel as H r Q' := by
  cases r with
  | ok a s => exact fun b as' H' st rl rb => k b H' (h b as' H' st rl rb)
  | bad => exact h
abbrev rD (K : PySem.W.Frag) : As → Hp → V → D → Prop := fun as H v d => RD K as H v d
abbrev rB : As → Hp → Bool → Bool → Prop := fun _ _ b a => b = a
abbrev rL (K : PySem.W.Frag) : As → Hp → List V → List D → Prop := fun as H v d => RDs K as H v d
abbrev rN (K : PySem.W.Frag) : As → Hp → St → En → Prop := fun as H σ ρ => Envs K as H ρ σ
inductive Fl where
  | nx (ρ : En) | rt (d : D) | bk (ρ : En) | ct (ρ : En)
inductive FV where
  | nx (σ : St) | rt (v : V) | bk (σ : St) | ct (σ : St)
inductive rF (K : PySem.W.Frag) (as : As) (H : Hp) : FV → Fl → Prop
  | nx {σ : St} {ρ : En} : Envs K as H ρ σ → rF K as H (.nx σ) (.nx ρ)
  | rt {v : V} {d : D} : RD K as H v d → rF K as H (.rt v) (.rt d)
  | bk {σ : St} {ρ : En} : Envs K as H ρ σ → rF K as H (.bk σ) (.bk ρ)
  | ct {σ : St} {ρ : En} : Envs K as H ρ σ → rF K as H (.ct σ) (.ct ρ)
def endF (D : Ends) (f : FV) (H : Hp) : Prop := match f with
  | .nx σ => D.nx σ H
  | .rt v => D.rt v H
  | .bk σ => D.bk σ H
  | .ct σ => D.ct σ H
abbrev FE := En → S → R D
abbrev FT := En → S → R Bool
abbrev FA := En → S → R (List D)
abbrev FS := En → S → R Fl
def RefE (K : PySem.W.Frag) (t : TE) (f : FE) : Prop := ∀ as σ H ρ s Q, Rel K as H s → Envs K as H ρ σ → Dn K (rD K) as H (f ρ s) Q → t σ H Q
def RefT (K : PySem.W.Frag) (t : TT) (f : FT) : Prop := ∀ as σ H ρ s Q, Rel K as H s → Envs K as H ρ σ → Dn K rB as H (f ρ s) Q → t σ H Q
def RefA (K : PySem.W.Frag) (t : TA) (f : FA) : Prop := ∀ as σ H ρ s Q, Rel K as H s → Envs K as H ρ σ → Dn K (rL K) as H (f ρ s) Q → t σ H Q
def RefS (K : PySem.W.Frag) (t : TS) (f : FS) : Prop := ∀ as σ H ρ s D, Rel K as H s → Envs K as H ρ σ → Dn K (rF K) as H (f ρ s) (endF D) → t D σ H
structure RE (X : Cx) (e : Expr) (f : FE) : Prop where
  ex : ∃ t, PE X e t ∧ RefE X.K t f
structure RT (X : Cx) (e : Expr) (f : FT) : Prop where
  ex : ∃ t, PT X e t ∧ RefT X.K t f
structure RW (X : Cx) (e : Expr) (f : FT) : Prop where
  ex : ∃ t, PW X e t ∧ RefT X.K t f
structure RA (X : Cx) (es : List Expr) (f : FA) : Prop where
  ex : ∃ t, PA X es t ∧ RefA X.K t f
structure RS (X : Cx) (st : Stmt) (f : FS) : Prop where
  ex : ∃ t, PS X st t ∧ RefS X.K t f
structure RSs (X : Cx) (st : List Stmt) (f : FS) : Prop where
  ex : ∃ t, PSs X st t ∧ RefS X.K t f
section
variable {X : Cx} {a b : Expr} {fa fb : FE} {pos : Pos}
def fVar (i : Nat) : FE := fun ρ s => match ρ[i]? with
  | some (some d) => .ok d s
  | _ => .bad
def fC (d : D) : FE := fun _ s => .ok d s
theorem ref_var {K : PySem.W.Frag} (i : Nat) : RefE K (tVar i) (fVar i) := by
  intro as σ H ρ s Q rl en h
  unfold fVar at h
  cases q : ρ[i]? with
  | none => rw [q] at h; exact h.elim
  | some o =>
    cases o with
    | none => rw [q] at h; exact h.elim
    | some d =>
      rw [q] at h
      obtain ⟨v, e, r⟩ := en.get i d q
      exact ⟨v, e, Dn.now h rl r⟩
theorem re_var (i : Nat) {x : Str} {pos : Pos} (hN : X.N[i]? = some x := by rfl) (hv : Vis X.env.scope x := by first | exact Or.inl rfl | exact Or.inr (Or.inl rfl) | exact Or.inr (Or.inr rfl)) (hd : (x == ("__debug__" : Str)) = false := by decide)
    (hcd : (x == ("__classdict__" : Str)) = false := by decide) : RE X (.Name x pos) (fVar i) := ⟨_, pe_var hN hv hd hcd, ref_var i⟩
theorem ref_c {K : PySem.W.Frag} {v : V} {d : D} (r : ∀ as H, RD K as H v d) : RefE K (tC v) (fC d) := fun as σ H ρ s Q rl en h => Dn.now (K := K) (rel := rD K) h rl (r as H)
theorem re_int {i j pos} : RE X (.Constant (.int i) j pos) (fC (.int i)) := ⟨_, pe_int, ref_c fun _ _ => .da (.int i)⟩
theorem re_str {x j pos} : RE X (.Constant (.str x) j pos) (fC (.str x)) := ⟨_, pe_str, ref_c fun _ _ => .da (.str x)⟩
theorem re_bl {b j pos} : RE X (.Constant (.bool b) j pos) (fC (.bl b)) := ⟨_, pe_bl, ref_c fun _ _ => .da (.bl b)⟩
theorem re_non {j pos} : RE X (.Constant .none j pos) (fC .non) := ⟨_, pe_non, ref_c fun _ _ => .da .non⟩
theorem re_glob {x : Str} {v : V} {u : Value} {d : D} {pos : Pos} (r : ∀ as H, RD X.K as H v d) (hm : X.mg x = some u) (rv : RelV v u) (hg : Gl X x := by rfl) (hd : (x == ("__debug__" : Str)) = false := by decide) : RE X (.Name x pos) (fC d) := ⟨_, pe_glob hg hm rv hd, ref_c r⟩
theorem re_bltn {x : Str} {n : String} {pos : Pos} (hm : X.mg x = none) (hv : bootBuiltins x = some (.type n)) (hg : Gl X x := by rfl) (hn : x ≠ "__name__" := by decide) (hd : (x == ("__debug__" : Str)) = false := by decide) : RE X (.Name x pos) (fC (.ty n)) :=
  ⟨_, pe_bltn (v := .ty n) hg hm hv rfl hn hd, ref_c fun _ _ => .ty n⟩
def fOp (g : D → D → S → R D) (fa fb : FE) : FE := fun ρ s => (fa ρ s).bind fun x s1 => (fb ρ s1).bind fun y s2 => g x y s2
def Ref2 (K : PySem.W.Frag) (r : R2) (g : D → D → S → R D) : Prop := ∀ as H s x y dx dy Q, Rel K as H s → RD K as H x dx → RD K as H y dy → Dn K (rD K) as H (g dx dy s) Q → r x y H Q
theorem ref_op {K : PySem.W.Frag} {r : R2} {g : D → D → S → R D} {ta tb : TE} (hr : Ref2 K r g) (ha : RefE K ta fa) (hb : RefE K tb fb) : RefE K (tOp r ta tb) (fOp g fa fb) := by
  intro as σ H ρ s Q rl en h
  refine ha as σ H ρ s _ rl en (Dn.bind h fun d1 s1 as1 H1 x st1 rl1 r1 h1 => ?_)
  refine hb as1 σ H1 ρ s1 _ rl1 (en.mono st1) (Dn.bind h1 fun d2 s2 as2 H2 y st2 rl2 r2 h2 => ?_)
  exact hr as2 H2 s2 x y d1 d2 Q rl2 (r1.mono st2) r2 h2
structure Op2 (X : Cx) (f : Value → Value → Sem Value) (g : D → D → S → R D) : Prop where
  ex : ∃ r, OpR X f r ∧ Ref2 X.K r g
theorem re_op {op : Operator} {g : D → D → S → R D} (o : Op2 X (binaryOp op) g) (ha : RE X a fa) (hb : RE X b fb) : RE X (.BinOp a op b pos) (fOp g fa fb) := by
  obtain ⟨r, ho, hr⟩ := o.ex
  obtain ⟨ta, pa, ra⟩ := ha.ex
  obtain ⟨tb, pb, rb⟩ := hb.ex
  exact ⟨_, pe_op ho pa pb, ref_op hr ra rb⟩
theorem re_cmp {op : CmpOp} {g : D → D → S → R D} (o : Op2 X (compareOp op) g) (ha : RE X a fa) (hb : RE X b fb) (hm : behindInMarks op b = false := by first | exact nomark _ | with_unfolding_all rfl) : RE X (.Compare a [op] [b] pos) (fOp g fa fb) := by
  obtain ⟨r, ho, hr⟩ := o.ex
  obtain ⟨ta, pa, ra⟩ := ha.ex
  obtain ⟨tb, pb, rb⟩ := hb.ex
  exact ⟨_, pe_cmpR ho pa pb hm, ref_op hr ra rb⟩
def fTest (f : FE) : FT := fun ρ s => (f ρ s).bind fun d s1 => match d with
  | .bl k => .ok k s1
  | _ => .bad
theorem ref_test {K : PySem.W.Frag} {t : TE} {f : FE} (h : RefE K t f) : RefT K (tTest t) (fTest f) := by
  intro as σ H ρ s Q rl en q
  refine h as σ H ρ s _ rl en (Dn.bind q fun d1 s1 as1 H1 x st1 rl1 r1 h1 => ?_)
  cases r1 with
  | da t =>
    cases t with
    | bl k => exact ⟨k, rfl, Dn.now h1 rl1 rfl⟩
    | _ => exact h1.elim
  | _ => exact h1.elim
theorem rt_cmp {op : CmpOp} {g : D → D → S → R D} (o : Op2 X (compareOp op) g) (ha : RE X a fa) (hb : RE X b fb) (hm : behindInMarks op b = false := by first | exact nomark _ | with_unfolding_all rfl) : RT X (.Compare a [op] [b] pos) (fTest (fOp g fa fb)) := by
  obtain ⟨r, ho, hr⟩ := o.ex
  obtain ⟨ta, pa, ra⟩ := ha.ex
  obtain ⟨tb, pb, rb⟩ := hb.ex
  exact ⟨_, pt_cmpR ho pa pb hm, ref_test (ref_op hr ra rb)⟩
def fChain (g g' : D → D → S → R D) (fa fb fc : FE) : FE := fun ρ s => (fa ρ s).bind fun x s1 => (fb ρ s1).bind fun y s2 => (g x y s2).bind fun z s3 => match z with
  | .bl true => (fc ρ s3).bind fun w s4 => g' y w s4
  | .bl false => .ok (.bl false) s3
  | _ => .bad
theorem ref_chain {K : PySem.W.Frag} {r r' : R2} {g g' : D → D → S → R D} {ta tb tc : TE} {fc : FE} (hr : Ref2 K r g) (hr' : Ref2 K r' g') (ha : RefE K ta fa) (hb : RefE K tb fb) (hc : RefE K tc fc) : RefE K (tChain r r' ta tb tc) (fChain g g' fa fb fc) := by
  intro as σ H ρ s Q rl en h
  refine ha as σ H ρ s _ rl en (Dn.bind h fun d1 s1 as1 H1 x st1 rl1 r1 h1 => ?_)
  refine hb as1 σ H1 ρ s1 _ rl1 (en.mono st1) (Dn.bind h1 fun d2 s2 as2 H2 y st2 rl2 r2 h2 => ?_)
  refine hr as2 H2 s2 x y d1 d2 _ rl2 (r1.mono st2) r2 (Dn.bind h2 fun d3 s3 as3 H3 z st3 rl3 r3 h3 => ?_)
  cases r3 with
  | da t =>
    cases t with
    | bl k =>
      cases k with
      | false => exact ⟨false, rfl, Dn.now h3 rl3 (.da (.bl false))⟩
      | true =>
        refine ⟨true, rfl, ?_⟩
        rw [if_pos rfl]
        refine hc as3 σ H3 ρ s3 _ rl3 (((en.mono st1).mono st2).mono st3) (Dn.bind h3 fun d4 s4 as4 H4 w st4 rl4 r4 h4 => ?_)
        exact hr' as4 H4 s4 y w d2 d4 Q rl4 ((r2.mono st3).mono st4) r4 h4
    | _ => exact h3.elim
  | _ => exact h3.elim
theorem re_chain {op op' : CmpOp} {g g' : D → D → S → R D} {c : Expr} {fc : FE} (o : Op2 X (compareOp op) g) (o' : Op2 X (compareOp op') g') (ha : RE X a fa) (hb : RE X b fb) (hc : RE X c fc) (hm : lastMarks [op, op'] [b, c] = false := by with_unfolding_all rfl) : RE X (.Compare a [op, op'] [b, c] pos) (fChain g g' fa fb fc) := by
  obtain ⟨r, ho, hr⟩ := o.ex
  obtain ⟨r', ho', hr'⟩ := o'.ex
  obtain ⟨ta, pa, ra⟩ := ha.ex
  obtain ⟨tb, pb, rb⟩ := hb.ex
  obtain ⟨tc, pc, rc⟩ := hc.ex
  exact ⟨_, pe_chain ho ho' pa pb pc hm, ref_chain hr hr' ra rb rc⟩
def fAndT (f g : FT) : FT := fun ρ s => (f ρ s).bind fun c s1 => if c = true then g ρ s1 else .ok false s1
def fOrT (f g : FT) : FT := fun ρ s => (f ρ s).bind fun c s1 => if c = true then .ok true s1 else g ρ s1
def fNotT (f : FT) : FT := fun ρ s => (f ρ s).bind fun c s1 => .ok (!c) s1
theorem ref_and {K : PySem.W.Frag} {t u : TT} {f g : FT} (h1 : RefT K t f) (h2 : RefT K u g) : RefT K (tAnd t u) (fAndT f g) := by
  intro as σ H ρ s Q rl en h
  refine h1 as σ H ρ s _ rl en (Dn.bind h fun c s1 as1 H1 b st1 rl1 r1 q1 => ?_)
  have e1 : b = c := r1
  subst e1
  cases b with
  | true => rw [if_pos rfl] at q1 ⊢; exact h2 as1 σ H1 ρ s1 Q rl1 (en.mono st1) q1
  | false => rw [if_neg Bool.false_ne_true] at q1 ⊢; exact Dn.now q1 rl1 rfl
theorem ref_or {K : PySem.W.Frag} {t u : TT} {f g : FT} (h1 : RefT K t f) (h2 : RefT K u g) : RefT K (tOr t u) (fOrT f g) := by
  intro as σ H ρ s Q rl en h
  refine h1 as σ H ρ s _ rl en (Dn.bind h fun c s1 as1 H1 b st1 rl1 r1 q1 => ?_)
  have e1 : b = c := r1
  subst e1
  cases b with
  | false => rw [if_neg Bool.false_ne_true] at q1 ⊢; exact h2 as1 σ H1 ρ s1 Q rl1 (en.mono st1) q1
  | true => rw [if_pos rfl] at q1 ⊢; exact Dn.now q1 rl1 rfl
theorem ref_not {K : PySem.W.Frag} {t : TT} {f : FT} (h1 : RefT K t f) : RefT K (tNot t) (fNotT f) := by
  intro as σ H ρ s Q rl en h
  refine h1 as σ H ρ s _ rl en (Dn.bind h fun c s1 as1 H1 b st1 rl1 r1 q1 => ?_)
  have e1 : b = c := r1
  subst e1
  exact Dn.now q1 rl1 rfl
theorem RW.rt {e : Expr} {f : FT} (h : RW X e f) : RT X e f := let ⟨t, p, r⟩ := h.ex; ⟨t, p.pt, r⟩
theorem rw_and1 {f : FT} (h : RT X a f) : RW X (.BoolOp .And [a] pos) f := let ⟨t, p, r⟩ := h.ex; ⟨t, pw_and1 p, r⟩
theorem rw_or1 {f : FT} (h : RT X a f) : RW X (.BoolOp .Or [a] pos) f := let ⟨t, p, r⟩ := h.ex; ⟨t, pw_or1 p, r⟩
theorem rw_and {f g : FT} {rest : List Expr} (h : RT X a f) (k : RW X (.BoolOp .And (b :: rest) pos) g) : RW X (.BoolOp .And (a :: b :: rest) pos) (fAndT f g) := let ⟨t, p, r⟩ := h.ex; let ⟨t', p', r'⟩ := k.ex; ⟨_, pw_and p p', ref_and r r'⟩
theorem rw_or {f g : FT} {rest : List Expr} (h : RT X a f) (k : RW X (.BoolOp .Or (b :: rest) pos) g) : RW X (.BoolOp .Or (a :: b :: rest) pos) (fOrT f g) := let ⟨t, p, r⟩ := h.ex; let ⟨t', p', r'⟩ := k.ex; ⟨_, pw_or p p', ref_or r r'⟩
theorem rt_not {f : FT} (h : RT X a f) : RT X (.UnaryOp .Not a pos) (fNotT f) := let ⟨t, p, r⟩ := h.ex; ⟨_, pt_not p, ref_not r⟩
def fAnd (fa fb : FE) : FE := fun ρ s => (fa ρ s).bind fun d s1 => match d with
  | .bl true => fb ρ s1
  | .bl false => .ok (.bl false) s1
  | _ => .bad
def fOr (fa fb : FE) : FE := fun ρ s => (fa ρ s).bind fun d s1 => match d with
  | .bl false => fb ρ s1
  | .bl true => .ok (.bl true) s1
  | _ => .bad
def fNot (fa : FE) : FE := fun ρ s => (fa ρ s).bind fun d s1 => match d with
  | .bl k => .ok (.bl (!k)) s1
  | _ => .bad
theorem re_one {op} (h : RE X a fa) : RE X (.BoolOp op [a] pos) fa := let ⟨t, p, r⟩ := h.ex; ⟨_, pe_one p, r⟩
theorem re_and {rest : List Expr} (h : RE X a fa) (k : RE X (.BoolOp .And (b :: rest) pos) fb) : RE X (.BoolOp .And (a :: b :: rest) pos) (fAnd fa fb) := by
  obtain ⟨ta, pa, ra⟩ := h.ex
  obtain ⟨tb, pb, rb⟩ := k.ex
  refine ⟨_, pe_and pa pb, fun as σ H ρ s Q rl en h => ?_⟩
  refine ra as σ H ρ s _ rl en (Dn.bind h fun d1 s1 as1 H1 x st1 rl1 r1 h1 => ?_)
  cases r1 with
  | da t =>
    cases t with
    | bl k =>
      refine ⟨k, rfl, ?_⟩
      cases k with
      | false => rw [if_neg Bool.false_ne_true]; exact Dn.now h1 rl1 (.da (.bl false))
      | true => rw [if_pos rfl]; exact rb as1 σ H1 ρ s1 Q rl1 (en.mono st1) h1
    | _ => exact h1.elim
  | _ => exact h1.elim
theorem re_or {rest : List Expr} (h : RE X a fa) (k : RE X (.BoolOp .Or (b :: rest) pos) fb) : RE X (.BoolOp .Or (a :: b :: rest) pos) (fOr fa fb) := by
  obtain ⟨ta, pa, ra⟩ := h.ex
  obtain ⟨tb, pb, rb⟩ := k.ex
  refine ⟨_, pe_or pa pb, fun as σ H ρ s Q rl en h => ?_⟩
  refine ra as σ H ρ s _ rl en (Dn.bind h fun d1 s1 as1 H1 x st1 rl1 r1 h1 => ?_)
  cases r1 with
  | da t =>
    cases t with
    | bl k =>
      refine ⟨k, rfl, ?_⟩
      cases k with
      | true => rw [if_pos rfl]; exact Dn.now h1 rl1 (.da (.bl true))
      | false => rw [if_neg Bool.false_ne_true]; exact rb as1 σ H1 ρ s1 Q rl1 (en.mono st1) h1
    | _ => exact h1.elim
  | _ => exact h1.elim
theorem re_not (h : RE X a fa) : RE X (.UnaryOp .Not a pos) (fNot fa) := by
  obtain ⟨ta, pa, ra⟩ := h.ex
  refine ⟨_, pe_not pa, fun as σ H ρ s Q rl en h => ?_⟩
  refine ra as σ H ρ s _ rl en (Dn.bind h fun d1 s1 as1 H1 x st1 rl1 r1 h1 => ?_)
  cases r1 with
  | da t =>
    cases t with
    | bl k => exact ⟨k, rfl, Dn.now h1 rl1 (.da (.bl (!k)))⟩
    | _ => exact h1.elim
  | _ => exact h1.elim
def fIf (c : FT) (fa fb : FE) : FE := fun ρ s => (c ρ s).bind fun k s1 => if k = true then fa ρ s1 else fb ρ s1
theorem re_if {c : Expr} {fc : FT} (hc : RT X c fc) (ha : RE X a fa) (hb : RE X b fb) : RE X (.IfExp c a b pos) (fIf fc fa fb) := by
  obtain ⟨tc, pc, rc⟩ := hc.ex
  obtain ⟨ta, pa, ra⟩ := ha.ex
  obtain ⟨tb, pb, rb⟩ := hb.ex
  refine ⟨_, pe_ifExp pc pa pb, fun as σ H ρ s Q rl en h => ?_⟩
  refine rc as σ H ρ s _ rl en (Dn.bind h fun d1 s1 as1 H1 x st1 rl1 r1 h1 => ?_)
  have e1 : x = d1 := r1
  subst e1
  cases x with
  | true => rw [if_pos rfl] at h1 ⊢; exact ra as1 σ H1 ρ s1 Q rl1 (en.mono st1) h1
  | false => rw [if_neg Bool.false_ne_true] at h1 ⊢; exact rb as1 σ H1 ρ s1 Q rl1 (en.mono st1) h1
def fNil : FA := fun _ s => .ok [] s
def fCons (f : FE) (g : FA) : FA := fun ρ s => (f ρ s).bind fun x s1 => (g ρ s1).bind fun xs s2 => .ok (x :: xs) s2
def fVs (ds : List D) : FA := fun _ s => .ok ds s
theorem ra_nil : RA X [] fNil := ⟨_, pa_nil, fun as σ H ρ s Q rl en h => Dn.now h rl .nil⟩
theorem ra_cons {e : Expr} {es : List Expr} {f : FE} {g : FA} (h : RE X e f) (k : RA X es g) (hs : starEach (e :: es) X.env = (false, eval e X.env) :: starEach es X.env := by rfl) : RA X (e :: es) (fCons f g) := by
  obtain ⟨t, p, r⟩ := h.ex
  obtain ⟨t', p', r'⟩ := k.ex
  refine ⟨_, pa_cons p p' hs, fun as σ H ρ s Q rl en h => ?_⟩
  refine r as σ H ρ s _ rl en (Dn.bind h fun d1 s1 as1 H1 x st1 rl1 r1 h1 => ?_)
  refine r' as1 σ H1 ρ s1 _ rl1 (en.mono st1) (Dn.bind h1 fun d2 s2 as2 H2 xs st2 rl2 r2 h2 => ?_)
  exact Dn.now h2 rl2 (.cons (r1.mono st2) r2)
def conD : Const → Option PyData
  | .str x => some (.str x)
  | .int i => some (.int i)
  | .bool b => some (.bool b)
  | .none => some .none
  | _ => none
def consD : List Expr → Option (List PyData)
  | [] => some []
  | .Constant c _ _ :: r => match conD c with
    | some v => match consD r with
      | some vs => some (v :: vs)
      | none => none
    | none => none
  | _ => none
def pV : PyData → V
  | .none => .non
  | .bool b => .bl b
  | .int i => .int i
  | .str x => .str x
  | _ => .non
theorem conD_V {c : Const} {d : PyData} (h : conD c = some d) : conV c = some (pV d) ∧ ∀ as H, TD as H (pV d) d := by
  cases c <;> simp [conD] at h <;> subst h
  all_goals first
    | exact ⟨rfl, fun _ _ => .str _⟩
    | exact ⟨rfl, fun _ _ => .int _⟩
    | exact ⟨rfl, fun _ _ => .bl _⟩
    | exact ⟨rfl, fun _ _ => .non⟩
theorem consD_V : ∀ {es : List Expr} {ds : List PyData}, consD es = some ds → conOf es = some (ds.map pV) ∧ ∀ as H, TDs as H (ds.map pV) ds
  | [], ds, h => by cases h; exact ⟨rfl, fun _ _ => .nil⟩
  | e :: es, ds, h => by
    cases e with
    | Constant c j pos =>
      simp only [consD] at h
      cases h1 : conD c with
      | none => (rw [h1] at h; cases h)
      | some v =>
        rw [h1] at h
        cases h2 : consD es with
        | none => rw [h2] at h; cases h
        | some ws =>
          rw [h2] at h
          cases h
          obtain ⟨a1, a2⟩ := conD_V h1
          obtain ⟨b1, b2⟩ := consD_V h2
          exact ⟨by simp only [conOf, a1, b1, List.map_cons], fun as H => .cons (a2 as H) (b2 as H)⟩
    | _ => simp [consD] at h
theorem ra_consts {es : List Expr} {ds : List PyData} (h : consD es = some ds) : RA X es (fVs (ds.map D.da)) := by
  obtain ⟨a, b⟩ := consD_V h
  exact ⟨_, pa_consts a, fun as σ H ρ s Q rl en h => Dn.now h rl (b as H).rd⟩
def newL (m : Bool) (ds : List D) (s : S) : R D := if m = true then .ok (.ref s.length) (s ++ [.lst ds]) else match pures ds with
  | some xs => .ok (.lst xs) s
  | none => .bad
def newT (ds : List D) (s : S) : R D := match pures ds with
  | some xs => .ok (.tup xs) s
  | none => .bad
theorem newL_ok {K : PySem.W.Frag} {as : As} {H H' : Hp} {s : S} {m : Bool} {ds : List D} {xs : List V} {Q : VK} {p : Addr} (h : Dn K (rD K) as H (newL m ds s) Q) (rl : Rel K as H s) (r : RDs K as H xs ds) (n : New H p (.lst xs) H') : Q (.ref p) H' := by
  unfold newL at h
  cases m with
  | true =>
    rw [if_pos rfl] at h
    refine h (.ref p) (as.add p) H' (step_laid n) (rl.laid n ⟨xs, n.at, r.mono (step_laid n)⟩) (.ref (by simp [rl.len]) fun q e => ?_)
    rw [← rl.len] at e
    simp at e
    exact e.symm
  | false =>
    rw [if_neg Bool.false_ne_true] at h
    cases q : pures ds with
    | none => rw [q] at h; exact h.elim
    | some ys =>
      rw [q] at h
      have e := pures_eq q
      subst e
      exact h (.ref p) as H' (step_new n) (rl.new n) (.da (.lst (fun z => rl.has z n.no) n.at (r.td.mono (step_new n))))
theorem newT_ok {K : PySem.W.Frag} {as : As} {H H' : Hp} {s : S} {ds : List D} {xs : List V} {Q : VK} {p : Addr} (h : Dn K (rD K) as H (newT ds s) Q) (rl : Rel K as H s) (r : RDs K as H xs ds) (n : New H p (.tup xs) H') : Q (.ref p) H' := by
  unfold newT at h
  cases q : pures ds with
  | none => rw [q] at h; exact h.elim
  | some ys =>
    rw [q] at h
    have e := pures_eq q
    subst e
    exact h (.ref p) as H' (step_new n) (rl.new n) (.da (.tup (fun z => rl.has z n.no) n.at (r.td.mono (step_new n))))
def fLst (m : Bool) (f : FA) : FE := fun ρ s => (f ρ s).bind fun ds s1 => if ds.length ≤ sizeLine then newL m ds s1 else .bad
def fTup (f : FA) : FE := fun ρ s => (f ρ s).bind fun ds s1 => if ds.length ≤ sizeLine then newT ds s1 else .bad
theorem re_lst {es : List Expr} {f : FA} (m : Bool) (h : RA X es f) : RE X (.List es pos) (fLst m f) := by
  obtain ⟨t, p, r⟩ := h.ex
  refine ⟨_, pe_lstN p, fun as σ H ρ s Q rl en h => ?_⟩
  refine r as σ H ρ s _ rl en (Dn.bind h fun ds s1 as1 H1 xs st1 rl1 r1 h1 => ?_)
  split at h1
  · rename_i hz
    exact ⟨by rw [r1.length]; exact hz, fun p H' n => newL_ok h1 rl1 r1 n⟩
  · exact h1.elim
theorem re_tup {es : List Expr} {f : FA} {x1 : Nat} (h : RA X es f) : RE X (.Tuple es x1 pos) (fTup f) := by
  obtain ⟨t, p, r⟩ := h.ex
  refine ⟨_, pe_tupN p, fun as σ H ρ s Q rl en h => ?_⟩
  refine r as σ H ρ s _ rl en (Dn.bind h fun ds s1 as1 H1 xs st1 rl1 r1 h1 => ?_)
  split at h1
  · rename_i hz
    exact ⟨by rw [r1.length]; exact hz, fun p H' n => newT_ok h1 rl1 r1 n⟩
  · exact h1.elim
end
end PF
namespace PF
open PySem PySem.Spec
open L2
def tOf (K : PySem.W.Frag) (f : FE) : TE := fun σ H Q => ∃ as ρ s, Rel K as H s ∧ Envs K as H ρ σ ∧ Dn K (rD K) as H (f ρ s) Q
def tOfT (K : PySem.W.Frag) (f : FT) : TT := fun σ H Q => ∃ as ρ s, Rel K as H s ∧ Envs K as H ρ σ ∧ Dn K rB as H (f ρ s) Q
def tOfS (K : PySem.W.Frag) (f : FS) : TS := fun D σ H => ∃ as ρ s, Rel K as H s ∧ Envs K as H ρ σ ∧ Dn K (rF K) as H (f ρ s) (endF D)
theorem RE.pe {X : Cx} {e : Expr} {f : FE} (h : RE X e f) : PE X e (tOf X.K f) := by
  obtain ⟨t, p, r⟩ := h.ex
  exact p.weak fun σ H Q ⟨as, ρ, s, a, b, c⟩ => r as σ H ρ s Q a b c
theorem RT.pt {X : Cx} {e : Expr} {f : FT} (h : RT X e f) : PT X e (tOfT X.K f) := by
  obtain ⟨t, p, r⟩ := h.ex
  exact ⟨fun pins s σ H Q I ⟨as, ρ, s', a, b, c⟩ => p pins s σ H Q I (r as σ H ρ s' Q a b c)⟩
inductive Tg where
  | nm (i : Nat) | t2 (a b : Tg) | t3 (a b c : Tg)
def gOf (K : PySem.W.Frag) : Tg → TG
  | .nm i => gName i
  | .t2 a b => gTup K 2 (gCons (gOf K a) (gCons (gOf K b) gNil))
  | .t3 a b c => gTup K 3 (gCons (gOf K a) (gCons (gOf K b) (gCons (gOf K c) gNil)))
def tupD : D → Option (List D)
  | .tup ds => some (ds.map D.da)
  | .con ds => some (ds.map D.da)
  | _ => none
def setD : Tg → D → En → Option En
  | .nm i, d, ρ => some (ρ.set i (some d))
  | .t2 a b, d, ρ => match tupD d with
    | some [x, y] => match setD a x ρ with
      | some ρ1 => setD b y ρ1
      | none => none
    | _ => none
  | .t3 a b c, d, ρ => match tupD d with
    | some [x, y, z] => match setD a x ρ with
      | some ρ1 => match setD b y ρ1 with
        | some ρ2 => setD c z ρ2
        | none => none
      | none => none
    | _ => none
def tgLt (k : Nat) : Tg → Bool
  | .nm i => decide (i < k)
  | .t2 a b => tgLt k a && tgLt k b
  | .t3 a b c => tgLt k a && tgLt k b && tgLt k c
def Fra (k : Nat) (σ σ' : St) : Prop := ∀ vs cap : St, vs.length = k → σ = vs ++ cap → ∃ vs' : St, vs'.length = k ∧ σ' = vs' ++ cap
theorem Fra.refl (k : Nat) (σ : St) : Fra k σ σ := fun vs cap h e => ⟨vs, h, e⟩
theorem Fra.trans {k : Nat} {a b c : St} (h1 : Fra k a b) (h2 : Fra k b c) : Fra k a c := fun vs cap h e => by
  obtain ⟨v1, l1, e1⟩ := h1 vs cap h e
  exact h2 v1 cap l1 e1
theorem tupD_sq {K : PySem.W.Frag} {as : As} {H : Hp} {v : V} {d : D} {ds : List D} (r : RD K as H v d) (h : tupD d = some ds) : ∃ p xs, v = .ref p ∧ SqT K H p xs ∧ RDs K as H xs ds := by
  cases r with
  | da t =>
    cases t with
    | tup n e r => cases h; exact ⟨_, _, rfl, SqT.of e, r.rd⟩
    | _ => cases h
  | con q r => cases h; exact ⟨_, _, rfl, q H, r.rd⟩
  | _ => cases h
theorem ref_tg {K : PySem.W.Frag} : ∀ (tg : Tg) {as : As} {σ : St} {H : Hp} {ρ ρ' : En} {v : V} {d : D} {Q : St → Hp → Prop}, Envs K as H ρ σ → RD K as H v d → setD tg d ρ = some ρ' →
    (∀ σ', Envs K as H ρ' σ' → (∀ k, tgLt k tg = true → Fra k σ σ') → Q σ' H) → gOf K tg v σ H Q
  | .nm i, as, σ, H, ρ, ρ', v, d, Q, en, r, e, h => by
    cases e
    refine h (σ.set i (some v)) (en.set i r) fun k hk vs cap hl z => ?_
    have hi : i < k := of_decide_eq_true hk
    subst z
    exact ⟨vs.set i (some v), by simpa using hl, by rw [List.set_append_left _ _ (by omega)]⟩
  | .t2 a b, as, σ, H, ρ, ρ', v, d, Q, en, r, e, h => by
    unfold setD at e
    split at e
    · rename_i x y q
      obtain ⟨p, xs, rfl, sq, rs⟩ := tupD_sq r q
      cases rs with
      | cons r1 rs =>
      cases rs with
      | cons r2 rs =>
      cases rs
      split at e
      · rename_i ρ1 q1
        refine ⟨p, _, rfl, sq, rfl, _, _, rfl, ref_tg a en r1 q1 fun σ1 en1 f1 => ⟨_, _, rfl, ref_tg b en1 r2 e fun σ2 en2 f2 => ⟨rfl, h σ2 en2 fun k hk => ?_⟩⟩⟩
        simp only [tgLt, Bool.and_eq_true] at hk
        exact (f1 k hk.1).trans (f2 k hk.2)
      · cases e
    · cases e
  | .t3 a b c, as, σ, H, ρ, ρ', v, d, Q, en, r, e, h => by
    unfold setD at e
    split at e
    · rename_i x y z q
      obtain ⟨p, xs, rfl, sq, rs⟩ := tupD_sq r q
      cases rs with
      | cons r1 rs =>
      cases rs with
      | cons r2 rs =>
      cases rs with
      | cons r3 rs =>
      cases rs
      split at e
      · rename_i ρ1 q1
        split at e
        · rename_i ρ2 q2
          refine ⟨p, _, rfl, sq, rfl, _, _, rfl, ref_tg a en r1 q1 fun σ1 en1 f1 => ⟨_, _, rfl, ref_tg b en1 r2 q2 fun σ2 en2 f2 => ⟨_, _, rfl, ref_tg c en2 r3 e fun σ3 en3 f3 => ⟨rfl, h σ3 en3 fun k hk => ?_⟩⟩⟩⟩
          simp only [tgLt, Bool.and_eq_true] at hk
          exact ((f1 k hk.1.1).trans (f2 k hk.1.2)).trans (f3 k hk.2)
        · cases e
      · cases e
    · cases e
abbrev Wk := List D × Option Nat
abbrev FI := En → S → R Wk
def SrcOk (p : Wk) (s : S) : Prop := match p.2 with
  | none => True
  | some n => s[n]? = some (.lst p.1)
open Classical in
noncomputable def chk {α : Type} (p : Wk) (s : S) (k : R α) : R α := if SrcOk p s then k else .bad
theorem chk_none {α : Type} {ds : List D} {s : S} {k : R α} : chk (ds, none) s k = k := if_pos trivial
theorem chk_pos {α : Type} {p : Wk} {s : S} {k : R α} (h : SrcOk p s) : chk p s k = k := if_pos h
theorem Dn.chk {α β : Type} {K : PySem.W.Frag} {rel : As → Hp → β → α → Prop} {as : As} {H : Hp} {p : Wk} {s : S} {r : R α} {Q : β → Hp → Prop} (h : Dn K rel as H (chk p s r) Q) : SrcOk p s ∧ Dn K rel as H r Q := by
  by_cases c : SrcOk p s
  · rw [chk_pos c] at h; exact ⟨c, h⟩
  · have e : PF.chk p s r = .bad := if_neg c
    rw [e] at h; exact h.elim
def ItOk (K : PySem.W.Frag) (as : As) (H : Hp) (J : It) (p : Wk) : Prop := ∀ as2 H2 s2, Step as H as2 H2 → Rel K as2 H2 s2 → SrcOk p s2 → ∀ i : Nat,
  (p.1.length ≤ i → J.stop i H2) ∧ ∀ d, p.1[i]? = some d → J.go i H2 ∧ ∀ x H3, J.yld i H2 x H3 → Step as2 H2 as2 H3 ∧ Rel K as2 H3 s2 ∧ RD K as2 H3 x d
def RefI (K : PySem.W.Frag) (wi : TI) (f : FI) : Prop := ∀ as σ H ρ s Q, Rel K as H s → Envs K as H ρ σ → Dn K (ItOk K) as H (f ρ s) Q → wi σ H Q
structure RI (X : Cx) (tg iter : Expr) (f : FI) : Prop where
  ex : ∃ t, PI X tg iter t ∧ RefI X.K t f
structure RG (X : Cx) (tg : Expr) (g : Tg) : Prop where
  pg : PG X tg (gOf X.K g)
section
variable {X : Cx} {a b : Expr} {fa fb : FE} {pos : Pos}
theorem rg_name {i : Nat} {x : Str} (hN : X.N.Nodup) (hi : X.N[i]? = some x) (hx : Loc X.env.scope x) (hf : X.fn x = true ∨ X.env.scope.names.lookup x = some .local := by first | exact .inl rfl | exact .inr rfl | assumption) : RG X (.Name x pos) (.nm i) := ⟨pg_name hN hi hx hf⟩
def fRet (f : FE) : FS := fun ρ s => (f ρ s).bind fun d s1 => .ok (.rt d) s1
def fRetN : FS := fun _ s => .ok (.rt .non) s
def fDrop (f : FE) : FS := fun ρ s => (f ρ s).bind fun _ s1 => .ok (.nx ρ) s1
def fNext : FS := fun ρ s => .ok (.nx ρ) s
def fBrk : FS := fun ρ s => .ok (.bk ρ) s
def fCnt : FS := fun ρ s => .ok (.ct ρ) s
def fSet (i : Nat) (f : FE) : FS := fun ρ s => (f ρ s).bind fun d s1 => .ok (.nx (ρ.set i (some d))) s1
def fAsg (g : Tg) (f : FE) : FS := fun ρ s => (f ρ s).bind fun d s1 => match setD g d ρ with
  | some ρ1 => .ok (.nx ρ1) s1
  | none => .bad
def fIfS (c : FT) (f g : FS) : FS := fun ρ s => (c ρ s).bind fun k s1 => if k = true then f ρ s1 else g ρ s1
def fSeq (f g : FS) : FS := fun ρ s => (f ρ s).bind fun fl s1 => match fl with
  | .nx ρ1 => g ρ1 s1
  | fl => .ok fl s1
theorem rs_ret (h : RE X a fa) : RS X (.Return (some a) pos) (fRet fa) := by
  obtain ⟨t, p, r⟩ := h.ex
  refine ⟨_, ps_ret p, fun as σ H ρ s D rl en h => ?_⟩
  exact r as σ H ρ s _ rl en (Dn.bind h fun d s1 as1 H1 v st1 rl1 r1 h1 => Dn.now (b := FV.rt v) h1 rl1 (.rt r1))
theorem rs_expr (h : RE X a fa) (hs : swapsWith a none pos.line X.env = pure false := by rfl) : RS X (.Expr a pos) (fDrop fa) := by
  obtain ⟨t, p, r⟩ := h.ex
  refine ⟨_, ps_expr p hs, fun as σ H ρ s D rl en h => ?_⟩
  exact r as σ H ρ s _ rl en (Dn.bind h fun d s1 as1 H1 v st1 rl1 r1 h1 => Dn.now (b := FV.nx σ) h1 rl1 (.nx (en.mono st1)))
theorem rs_set {i : Nat} {x : Str} {pos' : Pos} (hN : X.N.Nodup) (hi : X.N[i]? = some x) (hx : Loc X.env.scope x) (h : RE X a fa) (hs : swapsWith a (some (.Name x pos')) pos.line X.env = pure false := by rfl) (hf : X.fn x = true ∨ X.env.scope.names.lookup x = some .local := by first | exact .inl rfl | exact .inr rfl | assumption) : RS X (.Assign [.Name x pos'] a pos) (fSet i fa) := by
  obtain ⟨t, p, r⟩ := h.ex
  refine ⟨_, ps_set hN hi hx p hs hf, fun as σ H ρ s D rl en h => ?_⟩
  exact r as σ H ρ s _ rl en (Dn.bind h fun d s1 as1 H1 v st1 rl1 r1 h1 => Dn.now (b := FV.nx (σ.set i (some v))) h1 rl1 (.nx ((en.mono st1).set i r1)))
theorem rs_if {c : Expr} {st su : List Stmt} {fc : FT} {f g : FS} (hc : RT X c fc) (h1 : RSs X st f) (h2 : RSs X su g) : RS X (.If c st su pos) (fIfS fc f g) := by
  obtain ⟨tc, pc, rc⟩ := hc.ex
  obtain ⟨t, p, r⟩ := h1.ex
  obtain ⟨t', p', r'⟩ := h2.ex
  refine ⟨_, ps_if pc p p', fun as σ H ρ s D rl en h => ?_⟩
  refine rc as σ H ρ s _ rl en (Dn.bind h fun k s1 as1 H1 x st1 rl1 r1 h1 => ?_)
  have e1 : x = k := r1
  subst e1
  cases x with
  | true => rw [if_pos rfl] at h1 ⊢; exact r as1 σ H1 ρ s1 D rl1 (en.mono st1) h1
  | false => rw [if_neg Bool.false_ne_true] at h1 ⊢; exact r' as1 σ H1 ρ s1 D rl1 (en.mono st1) h1
theorem rss_nil : RSs X [] fNext := ⟨_, pss_nil, fun as σ H ρ s D rl en h => Dn.now (b := FV.nx σ) h rl (.nx en)⟩
theorem rss_one {st : Stmt} {f : FS} (h : RS X st f) : RSs X [st] f := let ⟨t, p, r⟩ := h.ex; ⟨_, pss_one p, r⟩
theorem ref_seq {K : PySem.W.Frag} {t u : TS} {f g : FS} (h1 : RefS K t f) (h2 : RefS K u g) : RefS K (tSeq t u) (fSeq f g) := by
  intro as σ H ρ s D rl en h
  refine h1 as σ H ρ s _ rl en (Dn.bind h fun fl s1 as1 H1 fv st1 rl1 r1 h1 => ?_)
  cases r1 with
  | nx e => exact h2 as1 _ H1 _ s1 D rl1 e h1
  | rt e => exact (show endF D (.rt _) H1 from Dn.now (K := K) (rel := rF K) (Q := endF D) (b := FV.rt _) h1 rl1 (rF.rt e))
  | bk e => exact (show endF D (.bk _) H1 from Dn.now (K := K) (rel := rF K) (Q := endF D) (b := FV.bk _) h1 rl1 (rF.bk e))
  | ct e => exact (show endF D (.ct _) H1 from Dn.now (K := K) (rel := rF K) (Q := endF D) (b := FV.ct _) h1 rl1 (rF.ct e))
theorem rss_cons {st : Stmt} {rest : List Stmt} {f g : FS} (h : RS X st f) (k : RSs X rest g) : RSs X (st :: rest) (fSeq f g) := by
  obtain ⟨t, p, r⟩ := h.ex
  obtain ⟨t', p', r'⟩ := k.ex
  exact ⟨_, pss_cons p p', ref_seq r r'⟩
noncomputable def loopF (g : Tg) (fb : FS) (p : Wk) : List D → En → S → R Fl
  | [], ρ, s => .ok (.nx ρ) s
  | d :: r, ρ, s => match setD g d ρ with
    | none => .bad
    | some ρ1 => (fb ρ1 s).bind fun fl s2 => match fl with
      | .nx ρ2 => chk p s2 (loopF g fb p r ρ2 s2)
      | .ct ρ2 => chk p s2 (loopF g fb p r ρ2 s2)
      | .bk ρ2 => .ok (.nx ρ2) s2
      | .rt d => .ok (.rt d) s2
noncomputable def fFor (fi : FI) (g : Tg) (fb : FS) : FS := fun ρ s => (fi ρ s).bind fun p s1 => chk p s1 (loopF g fb p p.1 ρ s1)
theorem rs_for {tg iter : Expr} {body : List Stmt} {fi : FI} {g : Tg} {fb : FS} (hc : X.calm = true) (hi : RI X tg iter fi) (hg : RG X tg g) (hb : RSs X body fb) (hp : PassesOwn (model X.prog X.w) X.A X.env X.xe := by exact PassesOwn.never)
    (hs : ∀ x, foldedSetIterable iter X.env x = pure x := by intro _; rfl) : RS X (.For tg iter body [] pos) (fFor fi g fb) := by
  obtain ⟨wi, pi, ri⟩ := hi.ex
  obtain ⟨tb, pb, rb⟩ := hb.ex
  refine ⟨_, ps_for hp hc pi hg.pg pb hs, fun as σ H ρ s D rl en h => ?_⟩
  refine ri as σ H ρ s _ rl en (Dn.bind h fun p s1 as1 H1 J st1 rl1 r1 h1 => ?_)
  obtain ⟨so, h1⟩ := Dn.chk h1
  refine ⟨fun i m σ' H' => ∃ as2 ρ2 s2, m = p.1.length - i ∧ i ≤ p.1.length ∧ Step as1 H1 as2 H' ∧ Rel X.K as2 H' s2 ∧ Envs X.K as2 H' ρ2 σ' ∧ SrcOk p s2 ∧ Dn X.K (rF X.K) as2 H' (loopF g fb p (p.1.drop i) ρ2 s2) (endF D),
    ⟨_, as1, ρ, s1, rfl, Nat.zero_le _, Step.refl _ _, rl1, en.mono st1, so, h1⟩, ?_⟩
  rintro i m σ' H' ⟨as2, ρ2, s2, hm, hi, st2, rl2, en2, so2, h2⟩
  have tn := r1 as2 H' s2 st2 rl2 so2 i
  by_cases hl : i < p.1.length
  · obtain ⟨d, hd⟩ : ∃ d, p.1[i]? = some d := ⟨_, List.getElem?_eq_getElem hl⟩
    have hdr : p.1.drop i = d :: p.1.drop (i + 1) := by
      rw [List.drop_eq_getElem_cons hl]
      rw [List.getElem?_eq_getElem hl] at hd
      cases hd; rfl
    rw [hdr] at h2
    obtain ⟨go, yl⟩ := tn.2 d hd
    unfold loopF at h2
    split at h2
    · exact h2.elim
    · rename_i ρ3 q3
      refine .inr ⟨go, fun σ4 H4 => ∃ as4 ρ4 s4, Step as1 H1 as4 H4 ∧ Rel X.K as4 H4 s4 ∧ Envs X.K as4 H4 ρ4 σ4 ∧ SrcOk p s4 ∧ Dn X.K (rF X.K) as4 H4 (loopF g fb p (p.1.drop (i + 1)) ρ4 s4) (endF D), ?_, fun x H3 hy => ?_⟩
      · rintro σ4 H4 ⟨as4, ρ4, s4, a1, a2, a3, a4, a5⟩
        exact ⟨p.1.length - (i + 1), by omega, as4, ρ4, s4, rfl, hl, a1, a2, a3, a4, a5⟩
      · obtain ⟨st3, rl3, rx⟩ := yl x H3 hy
        refine ref_tg g (en2.mono st3) rx q3 fun σ3 en3 _ => ?_
        refine rb as2 σ3 H3 ρ3 s2 _ rl3 en3 (Dn.bind (Dn.step h2 st3) fun fl s5 as5 H5 fv st5 rl5 r5 h5 => ?_)
        cases r5 with
        | nx e =>
          obtain ⟨so5, h5⟩ := Dn.chk h5
          exact ⟨as5, _, s5, (st2.trans st3).trans st5, rl5, e, so5, h5⟩
        | ct e =>
          obtain ⟨so5, h5⟩ := Dn.chk h5
          exact ⟨as5, _, s5, (st2.trans st3).trans st5, rl5, e, so5, h5⟩
        | rt e => exact (show endF D (.rt _) H5 from Dn.now (K := X.K) (rel := rF X.K) (Q := endF D) (b := FV.rt _) h5 rl5 (rF.rt e))
        | bk e => exact (show endF D (.nx _) H5 from Dn.now (K := X.K) (rel := rF X.K) (Q := endF D) (b := FV.nx _) h5 rl5 (rF.nx e))
  · refine .inl ⟨tn.1 (Nat.le_of_not_lt hl), ?_⟩
    rw [List.drop_eq_nil_of_le (Nat.le_of_not_lt hl)] at h2
    exact Dn.now (b := FV.nx σ') h2 rl2 (.nx en2)
end
end PF
namespace PF
open PySem PySem.Spec
open L2
def gIter (d : D) (s : S) : R Wk := match d with
  | .lst ds => .ok (ds.map D.da, none) s
  | .tup ds => .ok (ds.map D.da, none) s
  | .con ds => .ok (ds.map D.da, none) s
  | .frz ds => .ok (ds.map D.da, none) s
  | .ref n => match s[n]? with
    | some (.lst ds) => .ok (ds, some n) s
    | _ => .bad
  | _ => .bad
def fIt (f : FE) : FI := fun ρ s => (f ρ s).bind gIter
section
variable {X : Cx} {tg a b : Expr} {fa fb : FE} {pos : Pos}
def iAny (K : PySem.W.Frag) (tl : TE) : TI := fun σ H R => tl σ H fun x H1 => ∃ a, x = .ref a ∧ (((∃ xs, SqL K H1 a xs) ∧ R (Itl K a) H1) ∨ ((∃ xs, SqT K H1 a xs) ∧ R (Itt K a) H1))
theorem pi_any {l : Expr} {tl : TE} (hl : PE X l tl) : PI X tg l (iAny X.K tl) := by
  intro pins s σ H R I h
  refine thn (hl pins s σ H _ I h) fun v s1 ⟨x, H1, I1, r1, q1⟩ => ?_
  obtain ⟨a, e, q1⟩ := q1
  subst e
  cases r1
  have fp : ∀ b ∈ [s1.heap.objs.size], FpOk X pins H1 b := fun b hb => by
    have e : b = s1.heap.objs.size := by simpa using hb
    subst e
    exact I1.fpOk (Nat.le_refl _) (I1.hok.fresh (Nat.le_refl _))
  rcases q1 with ⟨⟨xs, hq⟩, q⟩ | ⟨⟨xs, hq⟩, q⟩
  · obtain ⟨its, rv, p, hz⟩ := I1.list hq
    refine wpAny_pyIter_list p.isList ?_
    exact ⟨s1.heap.objs.size, [s1.heap.objs.size], _, _, H1, rfl, I1.kept (t' := s1.toks) fun b o e => Heap.get?_push_of_some _ e, turn_list a _, ⟨_, Heap.get?_push_size _ rfl, rfl, rfl⟩, fp, q⟩
  · obtain ⟨its, rv, p, hz⟩ := I1.tuple hq
    refine wpAny_pyIter_tuple (show s1.heap.IsTuple a its.toArray from p) ?_
    exact ⟨s1.heap.objs.size, [s1.heap.objs.size], _, _, H1, rfl, I1.kept (t' := s1.toks) fun b o e => Heap.get?_push_of_some _ e, turn_tuple a _, ⟨_, Heap.get?_push_size _ rfl, rfl, rfl⟩, fp, q⟩
theorem itok_l {K : PySem.W.Frag} {as : As} {H : Hp} {p : Addr} {xs : List V} {w : Wk} (h : ∀ as2 H2 s2, Step as H as2 H2 → Rel K as2 H2 s2 → SrcOk w s2 → ∃ ys, SqL K H2 p ys ∧ RDs K as2 H2 ys w.1) : ItOk K as H (Itl K p) w := by
  intro as2 H2 s2 st rl so i
  obtain ⟨ys, sq, rs⟩ := h as2 H2 s2 st rl so
  refine ⟨fun hl => ⟨ys, sq, by rw [rs.length]; exact hl⟩, fun d hd => ?_⟩
  obtain ⟨v, hv, r⟩ := rs.get hd
  refine ⟨⟨ys, v, sq, hv⟩, fun x H3 hy => ?_⟩
  obtain ⟨rfl, hx⟩ := hy
  have := hx ys sq
  rw [hv] at this
  cases this
  exact ⟨Step.refl _ _, rl, r⟩
theorem itok_t {K : PySem.W.Frag} {as : As} {H : Hp} {p : Addr} {xs : List V} {w : Wk} (h : ∀ as2 H2 s2, Step as H as2 H2 → Rel K as2 H2 s2 → SrcOk w s2 → ∃ ys, SqT K H2 p ys ∧ RDs K as2 H2 ys w.1) : ItOk K as H (Itt K p) w := by
  intro as2 H2 s2 st rl so i
  obtain ⟨ys, sq, rs⟩ := h as2 H2 s2 st rl so
  refine ⟨fun hl => ⟨ys, sq, by rw [rs.length]; exact hl⟩, fun d hd => ?_⟩
  obtain ⟨v, hv, r⟩ := rs.get hd
  refine ⟨⟨ys, v, sq, hv⟩, fun x H3 hy => ?_⟩
  obtain ⟨rfl, hx⟩ := hy
  have := hx ys sq
  rw [hv] at this
  cases this
  exact ⟨Step.refl _ _, rl, r⟩
theorem ref_list {K : PySem.W.Frag} {as : As} {H : Hp} {s : S} {p : Addr} {n : Nat} {ds : List D} (rl : Rel K as H s) (hr : ∀ q, as.ix[n]? = some (some q) → q = p) (e : s[n]? = some (.lst ds)) : as.ix[n]? = some (some p) ∧ ∃ xs, H p = some (.lst xs) ∧ RDs K as H xs ds := by
  obtain ⟨q, hq⟩ := rl.li n _ e (by intro z; cases z)
  cases hr q hq
  exact ⟨hq, rl.ob n p _ hq e⟩
theorem ri_any (h : RE X a fa) : RI X tg a (fIt fa) := by
  obtain ⟨t, p, r⟩ := h.ex
  refine ⟨_, pi_any p, fun as σ H ρ s Q rl en h => ?_⟩
  refine r as σ H ρ s _ rl en (Dn.bind h fun d s1 as1 H1 v st1 rl1 r1 h1 => ?_)
  cases r1 with
  | da t =>
    cases t with
    | tup n e rs => exact ⟨_, rfl, .inr ⟨⟨_, SqT.of e⟩, Dn.now (Q := Q) h1 rl1 (itok_t (xs := []) fun as2 H2 s2 st rl so => ⟨_, SqT.of (st.keep _ _ n e), (rs.mono st).rd⟩)⟩⟩
    | lst n e rs => exact ⟨_, rfl, .inl ⟨⟨_, SqL.of e⟩, Dn.now (Q := Q) h1 rl1 (itok_l (xs := []) fun as2 H2 s2 st rl so => ⟨_, SqL.of (st.keep _ _ n e), (rs.mono st).rd⟩)⟩⟩
    | _ => exact h1.elim
  | con q rs => exact ⟨_, rfl, .inr ⟨⟨_, q H1⟩, Dn.now (Q := Q) h1 rl1 (itok_t (xs := []) fun as2 H2 s2 st rl so => ⟨_, q H2, (rs.mono st).rd⟩)⟩⟩
  | frz q rs => exact ⟨_, rfl, .inl ⟨⟨_, q as1 H1 (Step.refl _ _).toStep0⟩, Dn.now (Q := Q) h1 rl1 (itok_l (xs := []) fun as2 H2 s2 st rl so => ⟨_, q as2 H2 st.toStep0, (rs.mono st).rd⟩)⟩⟩
  | @ref pp n l hr =>
    have h1 : Dn X.K (ItOk X.K) as1 H1 (match s1[n]? with | some (O.lst ds) => R.ok (ds, some n) s1 | _ => R.bad) Q := h1
    split at h1
    · rename_i ds e
      obtain ⟨ha, xs, hx, rs⟩ := ref_list rl1 hr e
      refine ⟨_, rfl, .inl ⟨⟨_, SqL.of hx⟩, Dn.now (Q := Q) h1 rl1 (itok_l (xs := []) fun as2 H2 s2 st rl so => ?_)⟩⟩
      have so' : s2[_]? = some (O.lst ds) := so
      obtain ⟨q, hq⟩ := rl.li _ _ so' (by intro z; cases z)
      have e2 := hq
      rcases st.old _ l with z | z
      · rw [z] at e2
        cases hr q e2
        obtain ⟨ys, hy, rs2⟩ := rl.ob _ _ _ hq so'
        exact ⟨ys, SqL.of hy, rs2⟩
      · rw [z] at e2; cases e2
    · exact h1.elim
  | _ => exact h1.elim
def rngD (lo : Int) : Nat → List D
  | 0 => []
  | n + 1 => .int lo :: rngD (lo + 1) n
theorem rng_len : ∀ (n : Nat) (lo : Int), (rngD lo n).length = n
  | 0, _ => rfl
  | n + 1, lo => congrArg (· + 1) (rng_len n (lo + 1))
theorem rng_get : ∀ (n : Nat) (lo : Int) (i : Nat), i < n → (rngD lo n)[i]? = some (.int (lo + i))
  | n + 1, lo, 0, _ => by simp [rngD]
  | n + 1, lo, i + 1, h => by
    rw [rngD, List.getElem?_cons_succ, rng_get n (lo + 1) i (by omega)]
    have : lo + 1 + (i : Int) = lo + ((i + 1 : Nat) : Int) := by omega
    rw [this]
theorem itok_r {K : PySem.W.Frag} {as : As} {H : Hp} (lo : Int) (n : Nat) : ItOk K as H (Itr lo n) (rngD lo n, none) := by
  intro as2 H2 s2 st rl so i
  refine ⟨fun hl => by rw [rng_len] at hl; exact hl, fun d hd => ?_⟩
  have hl : i < n := by
    have := (List.getElem?_eq_some_iff.mp hd).1
    rw [rng_len] at this; exact this
  rw [rng_get n lo i hl] at hd
  cases hd
  refine ⟨hl, fun x H3 hy => ?_⟩
  obtain ⟨rfl, rfl⟩ := hy
  exact ⟨Step.refl _ _, rl, .da (.int _)⟩
def gRng (ds : List D) (s : S) : R Wk := match ds with
  | [.int j] => if -(2 ^ 62) ≤ j ∧ j < 2 ^ 62 then .ok (rngD 0 j.toNat, none) s else .bad
  | _ => .bad
def gRng2 (ds : List D) (s : S) : R Wk := match ds with
  | [.int i, .int j] => if -(2 ^ 62) ≤ i ∧ i < 2 ^ 62 ∧ -(2 ^ 62) ≤ j ∧ j < 2 ^ 62 then .ok (rngD i (j - i).toNat, none) s else .bad
  | _ => .bad
def fRng (f : FA) : FI := fun ρ s => (f ρ s).bind gRng
def fRng2 (f : FA) : FI := fun ρ s => (f ρ s).bind gRng2
theorem RD.int_inv {K : PySem.W.Frag} {as : As} {H : Hp} {v : V} {i : Int} (h : RD K as H v (.int i)) : v = .int i := by
  cases h with | da t => cases t; rfl
theorem RD.str_inv {K : PySem.W.Frag} {as : As} {H : Hp} {v : V} {x : Str} (h : RD K as H v (.str x)) : v = .str x := by
  cases h with | da t => cases t; rfl
theorem RD.bl_inv {K : PySem.W.Frag} {as : As} {H : Hp} {v : V} {x : Bool} (h : RD K as H v (.bl x)) : v = .bl x := by
  cases h with | da t => cases t; rfl
theorem RDs.one {K : PySem.W.Frag} {as : As} {H : Hp} {vs : List V} {d : D} (h : RDs K as H vs [d]) : ∃ v, vs = [v] ∧ RD K as H v d := by
  cases h with | cons a b => cases b; exact ⟨_, rfl, a⟩
theorem RDs.two {K : PySem.W.Frag} {as : As} {H : Hp} {vs : List V} {d e : D} (h : RDs K as H vs [d, e]) : ∃ v w, vs = [v, w] ∧ RD K as H v d ∧ RD K as H w e := by
  cases h with | cons a b => cases b with | cons b c => cases c; exact ⟨_, _, rfl, a, b⟩
theorem ri_rng {f : FA} {p : Pos} (hm : X.mg "range" = none) (h : RA X [a] f) (hg : Gl X "range" := by rfl) (hs : starEach [a] X.env = [(false, eval a X.env)] := by rfl) : RI X tg (.Call (.Name "range" p) [a] [] pos) (fRng f) := by
  obtain ⟨t, p, r⟩ := h.ex
  refine ⟨_, pi_range1 hg hm p hs, fun as σ H ρ s Q rl en h => ?_⟩
  refine r as σ H ρ s _ rl en (Dn.bind h fun ds s1 as1 H1 vs st1 rl1 r1 h1 => ?_)
  unfold gRng at h1
  split at h1
  · rename_i j
    obtain ⟨v, rfl, rv⟩ := r1.one
    cases rv.int_inv
    split at h1
    · rename_i hb
      exact ⟨j, rfl, hb.1, hb.2, Dn.now (Q := Q) h1 rl1 (itok_r 0 _)⟩
    · exact h1.elim
  · exact h1.elim
noncomputable def compF (g : Tg) (ft : FT) (fe : FE) (ρ0 : En) (p : Wk) : List D → S → R (List D)
  | [], s => .ok [] s
  | d :: r, s => match setD g d ρ0 with
    | none => .bad
    | some ρ1 => (ft ρ1 s).bind fun b s2 => if b = true then (fe ρ1 s2).bind fun x s3 => chk p s3 ((compF g ft fe ρ0 p r s3).bind fun xs s4 => .ok (x :: xs) s4) else chk p s2 (compF g ft fe ρ0 p r s2)
def capD (ρ : En) (js : List Nat) : En := js.map fun j => (ρ[j]?).join
noncomputable def fLc (m : Bool) (js : List Nat) (k : Nat) (fi : FI) (g : Tg) (ft : FT) (fe : FE) : FE := fun ρ s => (fi ρ s).bind fun p s1 => if p.1.length ≤ sizeLine then chk p s1 ((compF g ft fe (List.replicate k none ++ capD ρ js) p p.1 s1).bind fun ds s2 => newL m ds s2) else .bad
def fYes : FT := fun _ s => .ok true s
structure RIfs (X : Cx) (ifs : List Expr) (f : FT) : Prop where
  run : PIfs X ifs (tOfT X.K f)
theorem rifs_nil : RIfs X [] fYes := ⟨fun pins s σ H Q I ⟨as, ρ, s', rl, en, h⟩ => pifs_nil pins s σ H Q I (show Q true H from Dn.now h rl rfl)⟩
theorem rifs_one {f : FT} (h : RT X a f) : RIfs X [a] f := ⟨pifs_one h.pt⟩
theorem Envs.caps {K : PySem.W.Frag} {as : As} {H : Hp} {ρ : En} {σ : St} (e : Envs K as H ρ σ) (js : List Nat) : Envs K as H (capD ρ js) (capV σ js) := by
  refine ⟨by simp [capD, capV], fun i d h => ?_⟩
  unfold capD at h
  unfold capV
  rw [List.getElem?_map] at h ⊢
  cases q : js[i]? with
  | none => rw [q] at h; cases h
  | some j =>
    rw [q] at h
    have h : (ρ[j]?).join = some d := by simpa using h
    cases z : ρ[j]? with
    | none => rw [z] at h; cases h
    | some o =>
      rw [z] at h
      cases o with
      | none => cases h
      | some x =>
        cases h
        obtain ⟨v, e1, r⟩ := e.get j d z
        exact ⟨v, by simp [e1], r⟩
theorem Envs.own {K : PySem.W.Frag} {as : As} {H : Hp} {ρ : En} {σ vs : St} {k : Nat} (e : Envs K as H ρ σ) (hl : vs.length = k) : Envs K as H (List.replicate k none ++ ρ) (vs ++ σ) := by
  refine ⟨by simp [hl, e.len], fun i d h => ?_⟩
  by_cases z : i < k
  · rw [List.getElem?_append_left (by simpa using z), List.getElem?_replicate] at h
    simp [z] at h
  · rw [List.getElem?_append_right (by simpa using Nat.le_of_not_lt z)] at h
    rw [List.getElem?_append_right (by rw [hl]; exact Nat.le_of_not_lt z)]
    rw [hl]
    exact e.get _ d (by simpa using h)
theorem lcB {K : PySem.W.Frag} {as : As} {H : Hp} {s : S} {J : It} {p : Wk} {g : Tg} {ft : FT} {fe : FE} {ρ0 : En} {k : Nat} {cap : St} {m : Bool} {Q : VK} (hg : tgLt k g = true) (hz : p.1.length ≤ sizeLine) (rl : Rel K as H s) (ri : ItOk K as H J p) (so : SrcOk p s)
    (en : ∀ vs : St, vs.length = k → Envs K as H ρ0 (vs ++ cap)) (h : Dn K (rD K) as H ((compF g ft fe ρ0 p p.1 s).bind fun ds s2 => newL m ds s2) Q) : tLcB (gOf K g) (tOfT K ft) (tOf K fe) k cap J H Q := by
  intro D hD
  have n0 : New H D (.lst []) (upd H D (.lst [])) := ⟨hD, rfl⟩
  have nh : D ∉ as.hd := fun z => rl.hs D z hD
  have s0 := step_hide (as := as) n0
  refine ⟨fun i mm ys H' => ∃ as2 s2 ds, mm = p.1.length - i ∧ i ≤ p.1.length ∧ ys.length ≤ i ∧ Step as H as2 H' ∧ D ∈ as2.hd ∧ Rel K as2 H' s2 ∧ SrcOk p s2 ∧ RDs K as2 H' ys ds ∧
      Dn K (rD K) as H ((compF g ft fe ρ0 p (p.1.drop i) s2).bind fun xs s3 => newL m (ds ++ xs) s3) Q,
    ⟨_, as.hide D, s, [], rfl, Nat.zero_le _, Nat.le_refl _, s0, List.mem_cons_self, rl.hide n0, so, .nil, h⟩, ?_⟩
  rintro i mm ys H' hDi ⟨as2, s2, ds, hm, hi, hys, st2, mD2, rl2, so2, rs, h2⟩
  have tn := ri as2 H' s2 st2 rl2 so2 i
  by_cases hl : i < p.1.length
  · obtain ⟨d, hd⟩ : ∃ d, p.1[i]? = some d := ⟨_, List.getElem?_eq_getElem hl⟩
    have hdr : p.1.drop i = d :: p.1.drop (i + 1) := by
      rw [List.drop_eq_getElem_cons hl]
      rw [List.getElem?_eq_getElem hl] at hd
      cases hd; rfl
    rw [hdr] at h2
    obtain ⟨go, yl⟩ := tn.2 d hd
    unfold compF at h2
    split at h2
    · exact h2.elim
    · rename_i ρ3 q3
      refine .inr ⟨go, fun x H3 hy vs hv => ?_⟩
      obtain ⟨st3, rl3, rx⟩ := yl x H3 hy
      refine ref_tg g ((en vs hv).mono (st2.trans st3)) rx q3 fun σ3 en3 fr => ?_
      refine ⟨fr k hg vs cap hv rfl, as2, ρ3, s2, rl3, en3, ?_⟩
      have eD3 : H3 D = some (.lst ys) := st3.hh D mD2 _ hDi
      cases qt : ft ρ3 s2 with
      | bad => rw [qt] at h2; exact h2.elim
      | ok b s4 =>
        rw [qt] at h2
        intro b' as4 H4 st4 rl4 eb
        have eb' : b' = b := eb
        subst eb'
        have mD4 : D ∈ as4.hd := st4.hk D mD2
        have eD4 : H4 D = some (.lst ys) := st4.hh D mD2 _ eD3
        have st24 := (st2.trans st3).trans st4
        rw [R.bind_ok] at h2
        cases b' with
        | false =>
          rw [if_neg Bool.false_ne_true] at h2 ⊢
          by_cases c : SrcOk p s4
          · rw [chk_pos c] at h2
            exact ⟨eD4, _, by omega, as4, s4, ds, rfl, hl, by omega, st24, mD4, rl4, c, (rs.mono st3).mono st4, h2⟩
          · have e : chk p s4 (compF g ft fe ρ0 p (p.1.drop (i + 1)) s4) = .bad := if_neg c
            rw [e] at h2; exact h2.elim
        | true =>
          rw [if_pos rfl] at h2 ⊢
          refine ⟨as4, ρ3, s4, rl4, en3.mono st4, ?_⟩
          cases qe : fe ρ3 s4 with
          | bad => rw [qe] at h2; exact h2.elim
          | ok x5 s5 =>
            rw [qe] at h2
            intro v5 as5 H5 st5 rl5 r5
            rw [R.bind_ok] at h2
            have mD5 : D ∈ as5.hd := st5.hk D mD4
            have eD5 : H5 D = some (.lst ys) := st5.hh D mD4 _ eD4
            have st25 := st24.trans st5
            by_cases c : SrcOk p s5
            · rw [chk_pos c] at h2
              have cg : Chg H5 D (.lst (ys ++ [v5])) (upd H5 D (.lst (ys ++ [v5]))) := ⟨rfl⟩
              have s05 := step0_chg (.inr mD5) cg
              refine ⟨eD5, by omega, _, by omega, as5, s5, ds ++ [x5], rfl, hl, by simp; omega, step_own st25 hD nh mD5 cg, mD5, rl5.chgH mD5 cg, c, ((((rs.mono st3).mono st4).mono st5).append (.cons r5 .nil)).mono0 s05, ?_⟩
              cases qc : compF g ft fe ρ0 p (p.1.drop (i + 1)) s5 with
              | bad => rw [qc] at h2; exact h2.elim
              | ok xs s6 =>
                rw [qc] at h2
                show Dn K (rD K) as H (newL m ((ds ++ [x5]) ++ xs) s6) Q
                rw [List.append_assoc]
                exact h2
            · have e : chk p s5 ((compF g ft fe ρ0 p (p.1.drop (i + 1)) s5).bind fun xs s4 => .ok (x5 :: xs) s4) = .bad := if_neg c
              rw [e] at h2; exact h2.elim
  · refine .inl ⟨tn.1 (Nat.le_of_not_lt hl), ?_⟩
    rw [List.drop_eq_nil_of_le (Nat.le_of_not_lt hl)] at h2
    replace h2 : Dn K (rD K) as H (newL m (ds ++ []) s2) Q := h2
    rw [List.append_nil] at h2
    unfold newL at h2
    cases m with
    | true =>
      rw [if_pos rfl] at h2
      refine h2 (.ref D) _ H' (step_end2 st2 nh mD2) (rl2.take mD2 ⟨ys, hDi, rs.mono0 (step_take mD2)⟩) (.ref (by simp [rl2.len]) fun q e => ?_)
      rw [← rl2.len] at e
      simp at e
      exact e.symm
    | false =>
      rw [if_neg Bool.false_ne_true] at h2
      cases q : pures ds with
      | none => rw [q] at h2; exact h2.elim
      | some zs =>
        rw [q] at h2
        have e := pures_eq q
        subst e
        have h2 : Dn K (rD K) as H (R.ok (.lst zs) s2) Q := h2
        refine h2 (.ref D) _ H' (step_end st2 nh step_show) rl2.show (.da (.lst (fun z => ?_) hDi (rs.td.mono0 step_show)))
        rcases z with z | z
        · exact rl2.hx D mD2 z
        · exact absurd rfl (of_decide_eq_true (List.mem_filter.mp z).2)
end
end PF
namespace PF
open PySem PySem.Spec
open L2
open PyProof.Rows (envOfC)
section
variable {X : Cx} {own caps : List Str} {js : List Nat} {scope : Scope} {tg iter elt a : Expr} {ifs : List Expr} {fi : FI} {g : Tg} {ft : FT} {fe fa : FE} {pos : Pos}
theorem ref_lc {K : PySem.W.Frag} {wi : TI} {k : Nat} {m : Bool} (ri : RefI K wi fi) (hl : tgLt k g = true) : RefE K (tLc js k wi (gOf K g) (tOfT K ft) (tOf K fe)) (fLc m js k fi g ft fe) := by
  intro as σ H ρ s Q rl en h
  refine ri as σ H ρ s _ rl en (Dn.bind h fun p s1 as1 H1 J st1 rl1 r1 h1 => ?_)
  split at h1
  · rename_i hz
    obtain ⟨so, h1⟩ := Dn.chk h1
    exact lcB hl hz rl1 r1 so (fun vs hv => ((en.mono st1).caps js).own hv) h1
  · exact h1.elim
theorem re_lc (m : Bool) (hcalm : X.calm = true) (hkind : scope.kind = .function) (hnames : (scope.names.all fun p => !(p.2 == .local) || (scope.names.lookup p.1 == some .local)) = true) (hcell : (scope.names.any fun p => p.2 == .cell) = false)
    (hk : (scope.names.all fun p => !(p.2 == .free) || (X.env.kindOf p.1 == some .cell || X.env.kindOf p.1 == some .free)) = true)
    (hcap : Caps X scope caps js) (hl : tgLt own.length g = true) (hi : RI X tg iter fi) (hg : ∀ C fp s H, RG (cxLc X own caps scope C fp s H) tg g) (ht : ∀ C fp s H, RIfs (cxLc X own caps scope C fp s H) ifs ft) (he : ∀ C fp s H, RE (cxLc X own caps scope C fp s H) elt fe)
    (hs : ∀ x, foldedSetIterable iter X.env x = pure x := by intro _; rfl) : RE X (.ListComp elt [⟨tg, iter, ifs, 0⟩] scope pos) (fLc m js own.length fi g ft fe) := by
  obtain ⟨wi, pi, ri⟩ := hi.ex
  exact ⟨_, pe_lc hcalm hkind hnames hcell hk hcap pi (fun C fp s H => (hg C fp s H).pg) (fun C fp s H => (ht C fp s H).run) (fun C fp s H => (he C fp s H).pe) hs, ref_lc ri hl⟩
theorem rs_setLc (m : Bool) {i : Nat} {y : Str} {py : Pos} {spos : Pos} (hsw : swapsWith (.ListComp elt [⟨tg, iter, ifs, 0⟩] scope pos) (some (.Name y py)) spos.line X.env = pure true) (hN : X.N.Nodup) (hy : X.N[i]? = some y) (hyl : X.env.scope.names.lookup y = some .local)
    (hcalm : X.calm = true) (hkind : scope.kind = .function) (hnames : (scope.names.all fun p => !(p.2 == .local) || (scope.names.lookup p.1 == some .local)) = true) (hcell : (scope.names.any fun p => p.2 == .cell) = false)
    (hk : (scope.names.all fun p => !(p.2 == .free) || (X.env.kindOf p.1 == some .cell || X.env.kindOf p.1 == some .free)) = true)
    (hcap : Caps X scope caps js) (hl : tgLt own.length g = true) (hi : RI X tg iter fi) (hg : ∀ C fp s H, RG (cxLc X own caps scope C fp s H) tg g) (ht : ∀ C fp s H, RIfs (cxLc X own caps scope C fp s H) ifs ft) (he : ∀ C fp s H, RE (cxLc X own caps scope C fp s H) elt fe)
    (hs : ∀ x, foldedSetIterable iter X.env x = pure x := by intro _; rfl) : RS X (.Assign [.Name y py] (.ListComp elt [⟨tg, iter, ifs, 0⟩] scope pos) spos) (fSet i (fLc m js own.length fi g ft fe)) := by
  obtain ⟨wi, pi, ri⟩ := hi.ex
  refine ⟨_, ps_setLc (own := own) (te := tOf X.K fe) (tt := tOfT X.K ft) (g := gOf X.K g) hsw hN hy hyl hcalm hkind hnames hcell hk hcap pi (fun C fp s H => (hg C fp s H).pg) (fun C fp s H => (ht C fp s H).run) (fun C fp s H => (he C fp s H).pe) hs, fun as σ H ρ s D rl en h => ?_⟩
  exact ref_lc (m := m) ri hl as σ H ρ s _ rl en (Dn.bind h fun d s1 as1 H1 v st1 rl1 r1 h1 => Dn.now (b := FV.nx (σ.set i (some v))) h1 rl1 (.nx ((en.mono st1).set i r1)))
def gFrz (d : D) (s : S) : R D := match d with
  | .ref n => match s[n]? with
    | some (.lst ds) => match pures ds with
      | some xs => .ok (.lst xs) (s.set n .gone)
      | none => .bad
    | _ => .bad
  | d => .ok d s
def fFrz (f : FE) : FE := fun ρ s => (f ρ s).bind gFrz
theorem frz_ok {K : PySem.W.Frag} {as : As} {H : Hp} {s : S} {d : D} {v : V} {Q : VK} (rl : Rel K as H s) (r : RD K as H v d) (h : Dn K (rD K) as H (gFrz d s) Q) : Q v H := by
  cases r with
  | @ref p n l hr =>
    have h1 : Dn K (rD K) as H (match s[n]? with | some (O.lst ds) => (match pures ds with | some xs => R.ok (D.lst xs) (s.set n .gone) | none => .bad) | _ => R.bad) Q := h
    split at h1
    · rename_i ds e
      split at h1
      · rename_i xs q
        obtain ⟨ha, vs, hv, rs⟩ := ref_list rl hr e
        have e2 := pures_eq q
        subst e2
        refine h1 (.ref p) (as.cut n) H (step_frz n) rl.frz (.da (.lst ?_ hv (rs.td.mono (step_frz n))))
        rintro (z | z)
        · obtain ⟨i, hi⟩ := mem_as.mp z
          have hi' := cut_ix hi
          have : n = i := rl.nd n i p ha hi'
          subst this
          rw [List.getElem?_set] at hi
          simp at hi
        · exact rl.hx p z (mem_as.mpr ⟨n, ha⟩)
      · exact h1.elim
    · exact h1.elim
  | da t => exact Dn.now (Q := Q) h rl (.da t)
  | ty n => exact Dn.now (Q := Q) h rl (.ty n)
  | adr a => exact Dn.now (Q := Q) h rl (.adr a)
  | con q r => exact Dn.now (Q := Q) h rl (.con q r)
  | frz q r => exact Dn.now (Q := Q) h rl (.frz q r)
theorem re_frz (h : RE X a fa) : RE X a (fFrz fa) := by
  obtain ⟨t, p, r⟩ := h.ex
  refine ⟨_, p, fun as σ H ρ s Q rl en h => ?_⟩
  exact r as σ H ρ s _ rl en (Dn.bind h fun d s1 as1 H1 v st1 rl1 r1 h1 => frz_ok rl1 r1 h1)
end
abbrev FF := List D → S → R D
def spF (K : PySem.W.Frag) (n : Nat) (F : FF) : Sp := fun vs H Q _ => vs.length = n ∧ ∃ as ds s, Rel K as H s ∧ RDs K as H vs ds ∧ Dn K (rD K) as H (F ds s) Q
structure CalF (P : Program) (w : World) (K : PySem.W.Frag) (mg : Str → Option Value) (base : Heap) (x : Str) (k n : Nat) (F : FF) : Prop where
  cal : Cal P w K mg base x k (spF K n F)
theorem CalF.mono {P : Program} {w : World} {K : PySem.W.Frag} {mg : Str → Option Value} {base : Heap} {x : Str} {j k n : Nat} {F : FF} (c : CalF P w K mg base x j n F) (h : j ≤ k) : CalF P w K mg base x k n F := ⟨c.cal.mono h⟩
def fCall (n : Nat) (F : FF) (f : FA) : FE := fun ρ s => (f ρ s).bind fun ds s1 => if ds.length = n then F ds s1 else .bad
section
variable {X : Cx} {x : Str} {k n : Nat} {F : FF} {p pos : Pos} {e : Expr} {es : List Expr} {f : FA}
theorem re_c (c : CalF X.prog X.w X.K X.mg X.base x k n F) (hr : Room k X.A) (ha : RA X (e :: es) f) (hg : Gl X x := by rfl) (hdb : (x == ("__debug__" : Str)) = false := by decide)
    (he : starEach (e :: es) X.env = (false, eval e X.env) :: starEach es X.env := by rfl) (hpl : (backTo pos (starEach es X.env)).any (·.1) = false := by rfl) : RE X (.Call (.Name x p) (e :: es) [] pos) (fCall n F f) := by
  obtain ⟨t, p, r⟩ := ha.ex
  refine ⟨_, pe_c c.cal hr p hg hdb he hpl, fun as σ H ρ s Q rl en h => ?_⟩
  refine r as σ H ρ s _ rl en (Dn.bind h fun ds s1 as1 H1 vs st1 rl1 r1 h1 => ?_)
  split at h1
  · rename_i hn
    refine ⟨by rw [List.append_nil, r1.length]; exact hn, as1, ds, s1, rl1, ?_, h1⟩
    rw [List.append_nil]; exact r1
  · exact h1.elim
end
def bodyF (m : Nat) (fb : FS) : FF := fun ds s => (fb (ds.map some ++ List.replicate (m - ds.length) none) s).bind fun fl s1 => match fl with
  | .rt d => .ok d s1
  | .nx _ => .ok .non s1
  | _ => .bad
theorem start_envs {K : PySem.W.Frag} {as : As} {H : Hp} {N : List Str} {vs : List V} {ds : List D} (r : RDs K as H vs ds) : Envs K as H (ds.map some ++ List.replicate (N.length - ds.length) none) (L2.start N vs) := by
  unfold L2.start
  refine ⟨by simp [r.length], fun i d h => ?_⟩
  by_cases z : i < ds.length
  · rw [List.getElem?_append_left (by simpa using z), List.getElem?_map] at h
    cases q : ds[i]? with
    | none => rw [q] at h; cases h
    | some x =>
      rw [q] at h
      cases h
      obtain ⟨v, hv, rv⟩ := r.get q
      exact ⟨v, by rw [List.getElem?_append_left (by rw [List.length_map, r.length]; exact z), List.getElem?_map, hv]; rfl, rv⟩
  · rw [List.getElem?_append_right (by simpa using Nat.le_of_not_lt z), List.getElem?_replicate] at h
    split at h
    · cases h
    · cases h
section
variable {P : Program} {w : World} {K : PySem.W.Frag} {mg : Str → Option Value} {base : Heap} {x : Str} {st : Stmt} {N ps : List Str} {k : Nat}
theorem calF (h : Has K mg x st ps) (S : FnScope N ps (defScope st)) {m n : Nat} {fb : FS} (hm : N.length = m) (hn : ps.length = n)
    (hbody : ∀ (f : Addr) (cdv : Value) (A : Around) (outer : List Env) (s : Shared) (H : Hp) (E : XK), Room k (A.deeper (envOfC x (defScope st) s.heap.objs.size f cdv)) →
      RSs (cxOf CX0 P w K mg base N x (defScope st) f cdv A outer s H E).nox (defBody st) fb) : CalF P w K mg base x (k + 1) n (bodyF m fb) := by
  refine ⟨h.cal S (fun vs H Q E h => by rw [hn]; exact h.1) fun f cdv A outer s H vs Q E hr h => ?_⟩
  obtain ⟨hv, as, ds, s', rl, rs, h⟩ := h
  obtain ⟨t, p, r⟩ := (hbody f cdv A outer s H E hr).ex
  refine ⟨t, p, ?_⟩
  have en : Envs K as H (ds.map some ++ List.replicate (m - ds.length) none) (L2.start N vs) := by rw [← hm]; exact start_envs rs
  refine r as _ H _ s' _ rl en (Dn.bind h fun fl s1 as1 H1 fv st1 rl1 r1 h1 => ?_)
  cases r1 with
  | nx e => exact Dn.now (Q := Q) h1 rl1 (.da .non)
  | rt e => exact Dn.now (Q := Q) h1 rl1 e
  | bk e => exact h1.elim
  | ct e => exact h1.elim
end
def spLaw (K : PySem.W.Frag) : Sp := fun vs H Q _ => ∃ (a : Addr) (ns : List Int), vs = [.ref a] ∧ SqL K H a (ns.map V.int) ∧ ns.length ≤ 63 ∧ ∀ H', Q (.bl true) H'
theorem TDs.ints {as : As} {H : Hp} : ∀ ns : List Int, TDs as H (ns.map V.int) (ns.map PyData.int)
  | [] => .nil
  | n :: r => .cons (.int n) (TDs.ints r)
end PF
namespace PF
open PySem PySem.Spec
open L2
section
variable {X : Cx} {pins : List (Addr × Obj)} {σ : St} {H : Hp} {s : Shared} {as : As}
mutual
theorem TD.reads (I : Inv X pins σ H s) : ∀ {v : V} {d : PyData} {u : Value}, TD as H v d → RelV v u → ∃ bs, Reads s.heap u d bs
  | _, _, u, .non, r => by cases (show u = Value.none from r); exact ⟨_, .none⟩
  | _, _, u, .bl b, r => by cases (show u = Value.bool b from r); exact ⟨_, .bool b⟩
  | _, _, u, .int i, r => by obtain ⟨t, e⟩ := (show ∃ t, u = Value.int i t from r); subst e; exact ⟨_, .int i t⟩
  | _, _, u, .str x, r => by obtain ⟨t, e⟩ := (show ∃ t, u = Value.str x t from r); subst e; exact ⟨_, .str x t⟩
  | _, _, u, .tup (p := a) (xs := xs) n e q, r => by
    cases (show u = Value.ref a from r)
    obtain ⟨z, its, rv, o, h1, h2, k, h3⟩ := (show ObjOk X.prog X.w H s.heap a (.tup xs) from I.hok a _ e)
    obtain ⟨bs, ra⟩ := TDs.reads I q rv
    exact ⟨_, .tuple h1 h2 h3 ra⟩
  | _, _, u, .lst (p := a) (xs := xs) n e q, r => by
    cases (show u = Value.ref a from r)
    obtain ⟨z, its, k, rv, h1⟩ := (show ObjOk X.prog X.w H s.heap a (.lst xs) from I.hok a _ e)
    obtain ⟨bs, ra⟩ := TDs.reads I q rv
    exact ⟨_, .list h1 rfl rfl ra⟩
theorem TDs.reads (I : Inv X pins σ H s) : ∀ {vs : List V} {ds : List PyData} {us : List Value}, TDs as H vs ds → Vals vs us → ∃ bs, ReadsAll s.heap us ds bs
  | _, _, _, .nil, r => by cases r; exact ⟨_, .nil⟩
  | _, _, _, .cons a b, r => by
    cases r with
    | cons r1 r2 =>
      obtain ⟨as, h1⟩ := TD.reads I a r1
      obtain ⟨bs, h2⟩ := TDs.reads I b r2
      exact ⟨_, .cons h1 h2⟩
end
def toP (s : S) : D → Option PyData
  | .da d => some d
  | .con ds => some (.tuple ds)
  | .frz ds => some (.list ds)
  | .ref n => match s[n]? with
    | some (.lst ds) => (pures ds).map PyData.list
    | _ => none
  | _ => none
def toL (s : S) : D → Option (List D)
  | .lst ds => some (ds.map D.da)
  | .ref n => match s[n]? with
    | some (.lst ds) => some ds
    | _ => none
  | _ => none
theorem toL_ok {K : PySem.W.Frag} {st : S} {v : V} {d : D} {ds : List D} (rl : Rel K as H st) (r : RD K as H v d) (h : toL st d = some ds) : ∃ p xs, v = .ref p ∧ H p = some (.lst xs) ∧ RDs K as H xs ds := by
  cases r with
  | da t =>
    cases t with
    | lst n e q => cases h; exact ⟨_, _, rfl, e, q.rd⟩
    | _ => cases h
  | @ref p n l hr =>
    have h : (match st[n]? with | some (O.lst ds) => some ds | _ => none) = some ds := h
    split at h
    · rename_i ys e
      cases h
      obtain ⟨_, xs, hx, rs⟩ := ref_list rl hr e
      exact ⟨p, xs, rfl, hx, rs⟩
    · cases h
  | _ => cases h
theorem RD.reads {st : S} {v : V} {d : D} {pd : PyData} {u : Value} (I : Inv X pins σ H s) (rl : Rel X.K as H st) (r : RD X.K as H v d) (h : toP st d = some pd) (ru : RelV v u) : ∃ bs, Reads s.heap u pd bs := by
  cases r with
  | da t => cases h; exact t.reads I ru
  | con q rs =>
    cases h
    obtain ⟨its, rv, ⟨o, h1, h2, k, h3⟩, z⟩ := I.tuple (q H)
    obtain ⟨bs, ra⟩ := rs.reads I rv
    cases ru
    exact ⟨_, .tuple h1 h2 h3 ra⟩
  | frz q rs =>
    cases h
    obtain ⟨its, rv, ⟨o, k, h1, h2, h3, h4⟩, z⟩ := I.list (q as H (Step.refl _ _).toStep0)
    obtain ⟨bs, ra⟩ := rs.reads I rv
    cases ru
    exact ⟨_, .list h1 h2 h4 ra⟩
  | @ref p n l hr =>
    have h : (match st[n]? with | some (O.lst ds) => (pures ds).map PyData.list | _ => none) = some pd := h
    split at h
    · rename_i ds e
      cases q : pures ds with
      | none => rw [q] at h; cases h
      | some xs =>
        rw [q] at h
        cases h
        have e2 := pures_eq q
        subst e2
        obtain ⟨_, vs, hv, rs⟩ := ref_list rl hr e
        obtain ⟨z, its, k, rv, h1⟩ := (show ObjOk X.prog X.w H s.heap p (.lst vs) from I.hok p _ hv)
        obtain ⟨bs, ra⟩ := rs.td.reads I rv
        cases ru
        exact ⟨_, .list h1 rfl rfl ra⟩
    · cases h
  | _ => cases h
end
def okD (d : PyData) : Bool := d.canLay0 && decide (d.depth ≤ 64)
section
variable {X : Cx}
theorem op2_of {f : Value → Value → Sem Value} {g : D → D → S → R D} (h : ∀ (pins : List (Addr × Obj)) (sh : Shared) (σ : St) (H : Hp) (as : As) (s : S) (x y : V) (dx dy : D) (v u : Value) (Q : VK), Inv X pins σ H sh → Rel X.K as H s → RD X.K as H x dx → RD X.K as H y dy → RelV x v → RelV y u →
    Dn X.K (rD X.K) as H (g dx dy s) Q → wpAny (model X.prog X.w) X.A (f v u) (EP X pins σ Q) X.xe sh) : Op2 X f g :=
  ⟨fun x y H Q => ∃ as s dx dy, Rel X.K as H s ∧ RD X.K as H x dx ∧ RD X.K as H y dy ∧ Dn X.K (rD X.K) as H (g dx dy s) Q,
    fun pins sh σ H x y v u Q I rx ry ⟨as, s, dx, dy, rl, r1, r2, q⟩ => h pins sh σ H as s x y dx dy v u Q I rl r1 r2 rx ry q,
    fun as H s x y dx dy Q rl r1 r2 q => ⟨as, s, dx, dy, rl, r1, r2, q⟩⟩
def gEqD (dx dy : D) (s : S) : R D := match toP s dx, toP s dy with
  | some a, some b => if okD a = true ∧ okD b = true then .ok (.bl (PyData.eqv a b)) s else .bad
  | _, _ => .bad
def gNeD (dx dy : D) (s : S) : R D := match toP s dx, toP s dy with
  | some a, some b => if okD a = true ∧ okD b = true then .ok (.bl (!PyData.eqv a b)) s else .bad
  | _, _ => .bad
def gEq (dx dy : D) (s : S) : R D := match dx, dy with
  | .str x, .str y => .ok (.bl (decide (x = y))) s
  | dx, dy => gEqD dx dy s
def gNe (dx dy : D) (s : S) : R D := match dx, dy with
  | .str x, .str y => .ok (.bl (!decide (x = y))) s
  | dx, dy => gNeD dx dy s
theorem okD_lay {d : PyData} (h : okD d = true) : d.canLay0 = true ∧ d.depth ≤ 64 := by
  unfold okD at h
  rw [Bool.and_eq_true] at h
  exact ⟨h.1, of_decide_eq_true h.2⟩
theorem o_eqD (hu : X.A.units + 64 < cLine) : Op2 X (compareOp .Eq) gEqD := op2_of fun pins sh σ H as s x y dx dy v u Q I rl r1 r2 rx ry h => by
  unfold gEqD at h
  split at h
  · rename_i a b ea eb
    split at h
    · rename_i hok
      obtain ⟨bs1, q1⟩ := r1.reads I rl ea rx
      obtain ⟨bs2, q2⟩ := r2.reads I rl eb ry
      obtain ⟨c1, d1⟩ := okD_lay hok.1
      obtain ⟨c2, d2⟩ := okD_lay hok.2
      exact SeqAt.compareEq_reads q1 q2 c1 c2 (by omega) ⟨.bl _, H, I, rfl, Dn.now (Q := Q) h rl (.da (.bl _))⟩
    · exact h.elim
  · exact h.elim
theorem o_neD (hu : X.A.units + 64 < cLine) : Op2 X (compareOp .NotEq) gNeD := op2_of fun pins sh σ H as s x y dx dy v u Q I rl r1 r2 rx ry h => by
  unfold gNeD at h
  split at h
  · rename_i a b ea eb
    split at h
    · rename_i hok
      obtain ⟨bs1, q1⟩ := r1.reads I rl ea rx
      obtain ⟨bs2, q2⟩ := r2.reads I rl eb ry
      obtain ⟨c1, d1⟩ := okD_lay hok.1
      obtain ⟨c2, d2⟩ := okD_lay hok.2
      exact SeqAt.compareNe_reads q1 q2 c1 c2 (by omega) ⟨.bl _, H, I, rfl, Dn.now (Q := Q) h rl (.da (.bl _))⟩
    · exact h.elim
  · exact h.elim
theorem str_eqV (x y : Str) : decide (V.str x = V.str y) = decide (x = y) := by
  rw [Bool.eq_iff_iff, decide_eq_true_eq, decide_eq_true_eq, V.str.injEq]
theorem str_inv' {K : PySem.W.Frag} {as : As} {H : Hp} {v : V} {x : Str} (h : RD K as H v (.str x)) : v = .str x := by
  cases h with | da t => cases t; rfl
theorem o_eq (hu : X.A.units + 64 < cLine) : Op2 X (compareOp .Eq) gEq := op2_of fun pins sh σ H as s x y dx dy v u Q I rl r1 r2 rx ry h => by
  unfold gEq at h
  split at h
  · cases str_inv' r1; cases str_inv' r2
    exact op_eq pins sh σ H _ _ v u Q I rx ry ⟨rfl, by rw [str_eqV]; exact Dn.now (Q := Q) h rl (.da (.bl _))⟩
  · obtain ⟨r, ho, hr⟩ := (o_eqD (X := X) hu).ex
    exact ho pins sh σ H x y v u Q I rx ry (hr as H s x y _ _ Q rl r1 r2 h)
theorem o_ne (hu : X.A.units + 64 < cLine) : Op2 X (compareOp .NotEq) gNe := op2_of fun pins sh σ H as s x y dx dy v u Q I rl r1 r2 rx ry h => by
  unfold gNe at h
  split at h
  · cases str_inv' r1; cases str_inv' r2
    exact op_ne pins sh σ H _ _ v u Q I rx ry ⟨rfl, by rw [str_eqV]; exact Dn.now (Q := Q) h rl (.da (.bl _))⟩
  · obtain ⟨r, ho, hr⟩ := (o_neD (X := X) hu).ex
    exact ho pins sh σ H x y v u Q I rx ry (hr as H s x y _ _ Q rl r1 r2 h)
def itemsP : PyData → Option (List PyData)
  | .list ds => some ds
  | .tuple ds => some ds
  | _ => none
def nb (n b : Bool) : Bool := match n with
  | true => !b
  | false => b
def gInS (neg : Bool) (dx dy : D) (s : S) : R D := match toP s dx, (toP s dy).bind itemsP with
  | some a, some ds => if okD a = true ∧ ds.all okD = true then .ok (.bl (nb neg (ds.any fun d => PyData.eqv d a))) s else .bad
  | _, _ => .bad
def gInB (neg : Bool) (dx dy : D) (s : S) : R D := match dx, dy with
  | .str a, .str b => .ok (.bl (nb neg (!(Builtin.Str.occurrences b a 0 b.length 1).isEmpty))) s
  | dx, dy => gInS neg dx dy s
open Classical in
theorem eqAts {sh : Shared} {A : Around} {v : Value} {a : PyData} {bs : List Addr} (ra : Reads sh.heap v a bs) (ha : okD a = true) (hu : A.units + 64 < cLine) {us : List Value} {ds : List PyData} {cs : List Addr} (h : ReadsAll sh.heap us ds cs) (hd : ds.all okD = true) :
    ∃ e : Value → Bool, (∀ y ∈ us, SeqAt.EqAt A sh y v (e y)) ∧ us.any e = ds.any fun d => PyData.eqv d a := by
  refine ⟨fun y => decide (∃ d cs, Reads sh.heap y d cs ∧ PyData.eqv d a = true), ?_⟩
  have one : ∀ {y : Value} {d : PyData} {cs : List Addr}, Reads sh.heap y d cs → decide (∃ d cs, Reads sh.heap y d cs ∧ PyData.eqv d a = true) = PyData.eqv d a := fun {y d cs} r => by
    (rw [Bool.eq_iff_iff, decide_eq_true_eq])
    constructor
    · rintro ⟨d', cs', r', e⟩
      obtain ⟨q, _⟩ := PyProof.Rows.reads_det (fun _ _ e _ => e) r r'
      subst q; exact e
    · exact fun e => ⟨d, cs, r, e⟩
  induction us generalizing ds cs with
  | nil =>
    cases h
    exact ⟨fun _ z => (by cases z), rfl⟩
  | cons u us ih =>
    cases h with
    | cons r rs =>
      rw [List.all_cons, Bool.and_eq_true] at hd
      obtain ⟨i1, i2⟩ := ih rs hd.2
      obtain ⟨l1, m1⟩ := okD_lay hd.1
      obtain ⟨l2, m2⟩ := okD_lay ha
      refine ⟨fun y hy => ?_, ?_⟩
      · rcases List.mem_cons.mp hy with z | z
        · subst z
          show SeqAt.EqAt A sh y v (decide (∃ d cs, Reads sh.heap y d cs ∧ PyData.eqv d a = true))
          rw [one r]
          exact SeqAt.eqAt_reads _ _ A sh _ _ _ _ r ra l1 l2 (by omega)
        · exact i1 y z
      · rw [List.any_cons, List.any_cons, i2, one r]
theorem in1_units (A : Around) : A.in1.units ≤ A.units + 1 := by
  show (A.in1).units ≤ A.units + 1
  first | exact Nat.le_refl _ | (unfold Around.in1; simp) | simp [Around.in1]
theorem inS_ok (neg : Bool) {op : CmpOp} (hop : (neg = false ∧ op = .In) ∨ (neg = true ∧ op = .NotIn)) (hu : X.A.units + 65 < cLine) : Op2 X (compareOp op) (gInS neg) := op2_of fun pins sh σ H as s x y dx dy v u Q I rl r1 r2 rx ry h => by
  unfold gInS at h
  split at h
  · rename_i a ds ea ed
    split at h
    · rename_i hok
      obtain ⟨bs1, q1⟩ := r1.reads I rl ea rx
      cases e2 : toP s dy with
      | none => rw [e2] at ed; cases ed
      | some pd =>
        rw [e2] at ed
        have ed : itemsP pd = some ds := ed
        obtain ⟨bs2, q2⟩ := r2.reads I rl e2 ry
        have hin := in1_units X.A
        cases q2 with
        | list k1 k2 k3 k4 =>
          cases ed
          obtain ⟨e, he, ha⟩ := eqAts (A := X.A.in1) q1 hok.1 (by omega) k4 hok.2
          rcases hop with ⟨rfl, rfl⟩ | ⟨rfl, rfl⟩
          · refine SeqAt.in_listAt e ⟨_, k1, k2, _, k3⟩ (fun y hy => he y (by simpa using hy)) ⟨.bl _, H, I, rfl, ?_⟩
            rw [← Array.any_toList, ha]
            exact Dn.now (Q := Q) h rl (.da (.bl _))
          · refine SeqAt.notIn_listAt e ⟨_, k1, k2, _, k3⟩ (fun y hy => he y (by simpa using hy)) ⟨.bl _, H, I, rfl, ?_⟩
            rw [← Array.any_toList, ha]
            exact Dn.now (Q := Q) h rl (.da (.bl _))
        | tuple k1 k2 k3 k4 =>
          cases ed
          obtain ⟨e, he, ha⟩ := eqAts (A := X.A.in1) q1 hok.1 (by omega) k4 hok.2
          rcases hop with ⟨rfl, rfl⟩ | ⟨rfl, rfl⟩
          · refine SeqAt.in_tupleAt e ⟨_, k1, k2, _, k3⟩ (fun y hy => he y (by simpa using hy)) ⟨.bl _, H, I, rfl, ?_⟩
            rw [← Array.any_toList, ha]
            exact Dn.now (Q := Q) h rl (.da (.bl _))
          · refine SeqAt.notIn_tupleAt e ⟨_, k1, k2, _, k3⟩ (fun y hy => he y (by simpa using hy)) ⟨.bl _, H, I, rfl, ?_⟩
            rw [← Array.any_toList, ha]
            exact Dn.now (Q := Q) h rl (.da (.bl _))
        | _ => cases ed
    · exact h.elim
  · exact h.elim
theorem in_ok (neg : Bool) {op : CmpOp} (hop : (neg = false ∧ op = .In) ∨ (neg = true ∧ op = .NotIn)) (hu : X.A.units + 65 < cLine) : Op2 X (compareOp op) (gInB neg) := op2_of fun pins sh σ H as s x y dx dy v u Q I rl r1 r2 rx ry h => by
  unfold gInB at h
  split at h
  · rename_i a b
    cases r2.str_inv
    cases r1.str_inv
    rcases hop with ⟨rfl, rfl⟩ | ⟨rfl, rfl⟩
    · exact op_in_str pins sh σ H _ _ v u Q I rx ry ⟨a, b, rfl, rfl, Dn.now (Q := Q) h rl (.da (.bl _))⟩
    · exact op_notin_str pins sh σ H _ _ v u Q I rx ry ⟨a, b, rfl, rfl, Dn.now (Q := Q) h rl (.da (.bl _))⟩
  · obtain ⟨r, ho, hr⟩ := (inS_ok (X := X) neg hop hu).ex
    exact ho pins sh σ H x y v u Q I rx ry (hr as H s x y _ _ Q rl r1 r2 h)
abbrev gIn := gInB false
abbrev gNotIn := gInB true
theorem o_in (hu : X.A.units + 65 < cLine) : Op2 X (compareOp .In) gIn := in_ok false (.inl ⟨rfl, rfl⟩) hu
theorem o_notin (hu : X.A.units + 65 < cLine) : Op2 X (compareOp .NotIn) gNotIn := in_ok true (.inr ⟨rfl, rfl⟩) hu
def numD : PyData → Option Int
  | .int i => some i
  | .bool b => some (b01 b)
  | _ => none
def gAdd (m : Bool) (dx dy : D) (s : S) : R D := match dx, dy with
  | .int i, .int j => .ok (.int (i + j)) s
  | .bl b, .int j => .ok (.int (b01 b + j)) s
  | .str a, .str b => if a.length + b.length ≤ sizeLine then .ok (.str (a ++ b)) s else .bad
  | .tup xs, .tup ys => if xs.length + ys.length ≤ sizeLine then .ok (.tup (xs ++ ys)) s else .bad
  | dx, dy => match toL s dx, toL s dy with
    | some xs, some ys => if xs.length + ys.length ≤ sizeLine then newL m (xs ++ ys) s else .bad
    | _, _ => .bad
theorem RD.tup_inv {K : PySem.W.Frag} {as : As} {H : Hp} {v : V} {ds : List PyData} (h : RD K as H v (.tup ds)) : ∃ p xs, v = .ref p ∧ ¬ as.has p ∧ H p = some (.tup xs) ∧ TDs as H xs ds := by
  cases h with | da t => cases t with | tup n e r => exact ⟨_, _, rfl, n, e, r⟩
theorem o_add (m : Bool) : Op2 X (binaryOp .Add) (gAdd m) := op2_of fun pins sh σ H as s x y dx dy v u Q I rl r1 r2 rx ry h => by
  unfold gAdd at h
  split at h
  · rename_i i j
    cases r1.int_inv; cases r2.int_inv
    exact op_add pins sh σ H _ _ v u Q I rx ry ⟨i, j, rfl, rfl, Dn.now (Q := Q) h rl (.da (.int _))⟩
  · rename_i b j
    cases r1.bl_inv; cases r2.int_inv
    exact op_addL pins sh σ H _ _ v u Q I rx ry ⟨b01 b, j, rfl, rfl, Dn.now (Q := Q) h rl (.da (.int _))⟩
  · rename_i a b
    split at h
    · rename_i hz
      cases r1.str_inv; cases r2.str_inv
      exact op_add_str pins sh σ H _ _ v u Q I rx ry ⟨a, b, rfl, rfl, hz, Dn.now (Q := Q) h rl (.da (.str _))⟩
    · exact h.elim
  · rename_i xs ys
    split at h
    · rename_i hz
      obtain ⟨p, vs, rfl, n1, e1, t1⟩ := r1.tup_inv
      obtain ⟨q, ws, rfl, n2, e2, t2⟩ := r2.tup_inv
      refine op_catTA pins sh σ H _ _ v u Q I rx ry ⟨p, q, vs, ws, rfl, rfl, SqT.of e1, SqT.of e2, by rw [t1.length, t2.length]; exact hz, fun e => ?_, fun _ e => ?_, fun _ _ r H' n => ?_⟩
      · subst e
        cases t1
        exact Dn.now (Q := Q) h rl (.da (.tup n2 e2 t2))
      · subst e
        cases t2
        rw [List.append_nil] at h
        exact Dn.now (Q := Q) h rl (.da (.tup n1 e1 t1))
      · exact h (.ref r) as H' (step_new n) (rl.new n) (.da (.tup (fun z => rl.has z n.no) n.at ((t1.append t2).mono (step_new n))))
    · exact h.elim
  · split at h
    · rename_i xs ys e1 e2
      split at h
      · rename_i hz
        obtain ⟨p, vs, rfl, h1, t1⟩ := toL_ok rl r1 e1
        obtain ⟨q, ws, rfl, h2, t2⟩ := toL_ok rl r2 e2
        exact op_catN pins sh σ H _ _ v u Q I rx ry ⟨p, q, vs, ws, rfl, rfl, h1, h2, by rw [t1.length, t2.length]; exact hz, fun r H' n => newL_ok h rl (t1.append t2) n⟩
      · exact h.elim
    · exact h.elim
def gSub (dx dy : D) (s : S) : R D := match dx, dy with
  | .int i, .int j => .ok (.int (i - j)) s
  | .bl b, .int j => .ok (.int (b01 b - j)) s
  | .int i, .bl b => .ok (.int (i - b01 b)) s
  | _, _ => .bad
theorem o_sub : Op2 X (binaryOp .Sub) gSub := op2_of fun pins sh σ H as s x y dx dy v u Q I rl r1 r2 rx ry h => by
  unfold gSub at h
  split at h
  · rename_i i j
    cases r1.int_inv; cases r2.int_inv
    exact op_sub pins sh σ H _ _ v u Q I rx ry ⟨i, j, rfl, rfl, Dn.now (Q := Q) h rl (.da (.int _))⟩
  · rename_i b j
    cases r1.bl_inv; cases r2.int_inv
    exact op_subL pins sh σ H _ _ v u Q I rx ry ⟨b01 b, j, rfl, rfl, Dn.now (Q := Q) h rl (.da (.int _))⟩
  · rename_i i b
    cases r1.int_inv; cases r2.bl_inv
    exact op_subR pins sh σ H _ _ v u Q I rx ry ⟨i, b01 b, rfl, rfl, Dn.now (Q := Q) h rl (.da (.int _))⟩
  · exact h.elim
instance (i j : Int) : Decidable (CMul i j) := by unfold CMul; infer_instance
instance (i j : Int) : Decidable (CDiv i j) := by unfold CDiv; infer_instance
instance (i j : Int) : Decidable (CPow i j) := by unfold CPow; infer_instance
def gI2 (C : Int → Int → Prop) [∀ i j, Decidable (C i j)] (f : Int → Int → Int) (dx dy : D) (s : S) : R D := match dx, dy with
  | .int i, .int j => if C i j then .ok (.int (f i j)) s else .bad
  | _, _ => .bad
theorem i2_ok {op : Operator} {C : Int → Int → Prop} [∀ i j, Decidable (C i j)] {f : Int → Int → Int} (o : OpR X (binaryOp op) (rI C fun i j => .int (f i j))) : Op2 X (binaryOp op) (gI2 C f) := op2_of fun pins sh σ H as s x y dx dy v u Q I rl r1 r2 rx ry h => by
  unfold gI2 at h
  split at h
  · rename_i i j
    split at h
    · rename_i hc
      cases r1.int_inv; cases r2.int_inv
      exact o pins sh σ H _ _ v u Q I rx ry ⟨i, j, rfl, rfl, hc, Dn.now (Q := Q) h rl (.da (.int _))⟩
    · exact h.elim
  · exact h.elim
def gMul : D → D → S → R D := gI2 CMul fun i j => i * j
def gDiv : D → D → S → R D := gI2 CDiv fun i j => i / j
def gMod : D → D → S → R D := gI2 (fun _ j => 0 < j) fun i j => i % j
def gPow : D → D → S → R D := gI2 CPow fun i j => i ^ j.toNat
theorem o_mul : Op2 X (binaryOp .Mult) gMul := i2_ok op_mul
theorem o_div : Op2 X (binaryOp .FloorDiv) gDiv := i2_ok op_fdiv
theorem o_mod : Op2 X (binaryOp .Mod) gMod := i2_ok op_mod
theorem o_pow : Op2 X (binaryOp .Pow) gPow := i2_ok op_pow
def gC2 (f : Int → Int → Bool) (dx dy : D) (s : S) : R D := match dx, dy with
  | .int i, .int j => .ok (.bl (f i j)) s
  | _, _ => .bad
theorem c2_ok {op : CmpOp} {f : Int → Int → Bool} (o : OpR X (compareOp op) (rI0 fun i j => .bl (f i j))) : Op2 X (compareOp op) (gC2 f) := op2_of fun pins sh σ H as s x y dx dy v u Q I rl r1 r2 rx ry h => by
  unfold gC2 at h
  split at h
  · rename_i i j
    cases r1.int_inv; cases r2.int_inv
    exact o pins sh σ H _ _ v u Q I rx ry ⟨i, j, rfl, rfl, Dn.now (Q := Q) h rl (.da (.bl _))⟩
  · exact h.elim
def gLe : D → D → S → R D := gC2 fun i j => decide (i ≤ j)
def gGt : D → D → S → R D := gC2 fun i j => decide (j < i)
def gGe : D → D → S → R D := gC2 fun i j => decide (j ≤ i)
def gLt (dx dy : D) (s : S) : R D := match dx, dy with
  | .int i, .int j => .ok (.bl (decide (i < j))) s
  | .str a, .str b => .ok (.bl (decide (a.cps.toList < b.cps.toList))) s
  | _, _ => .bad
theorem o_le : Op2 X (compareOp .LtE) gLe := c2_ok op_le
theorem o_gt : Op2 X (compareOp .Gt) gGt := c2_ok op_gt
theorem o_ge : Op2 X (compareOp .GtE) gGe := c2_ok op_ge
theorem o_lt : Op2 X (compareOp .Lt) gLt := op2_of fun pins sh σ H as s x y dx dy v u Q I rl r1 r2 rx ry h => by
  unfold gLt at h
  split at h
  · rename_i i j
    cases r1.int_inv; cases r2.int_inv
    exact op_lt pins sh σ H _ _ v u Q I rx ry ⟨i, j, rfl, rfl, Dn.now (Q := Q) h rl (.da (.bl _))⟩
  · rename_i a b
    cases r1.str_inv; cases r2.str_inv
    exact op_lt_str pins sh σ H _ _ v u Q I rx ry ⟨a, b, rfl, rfl, Dn.now (Q := Q) h rl (.da (.bl _))⟩
  · exact h.elim
def isN : D → Bool
  | .non => true
  | _ => false
theorem isN_V {K : PySem.W.Frag} {as : As} {H : Hp} {v : V} {d : D} (r : RD K as H v d) : decide (v = .non) = isN d := by
  cases r with
  | da t => cases t <;> rfl
  | _ => rfl
def gIs (dx dy : D) (s : S) : R D := match dy with
  | .non => .ok (.bl (isN dx)) s
  | _ => .bad
def gIsNot (dx dy : D) (s : S) : R D := match dy with
  | .non => .ok (.bl (!isN dx)) s
  | _ => .bad
theorem RD.non_inv {K : PySem.W.Frag} {as : As} {H : Hp} {v : V} (h : RD K as H v .non) : v = .non := by
  cases h with | da t => cases t; rfl
theorem o_is : Op2 X (compareOp .Is) gIs := op2_of fun pins sh σ H as s x y dx dy v u Q I rl r1 r2 rx ry h => by
  unfold gIs at h
  split at h
  · cases r2.non_inv
    refine op_isN pins sh σ H _ _ v u Q I rx ry ⟨rfl, ?_⟩
    rw [isN_V r1]
    exact Dn.now (Q := Q) h rl (.da (.bl _))
  · exact h.elim
theorem o_isnot : Op2 X (compareOp .IsNot) gIsNot := op2_of fun pins sh σ H as s x y dx dy v u Q I rl r1 r2 rx ry h => by
  unfold gIsNot at h
  split at h
  · cases r2.non_inv
    refine op_notN pins sh σ H _ _ v u Q I rx ry ⟨rfl, ?_⟩
    rw [isN_V r1]
    exact Dn.now (Q := Q) h rl (.da (.bl _))
  · exact h.elim
def fNeg (f : FE) : FE := fun ρ s => (f ρ s).bind fun d s1 => match d with
  | .int i => .ok (.int (-i)) s1
  | _ => .bad
theorem re_neg {a : Expr} {fa : FE} {pos : Pos} (h : RE X a fa) : RE X (.UnaryOp .USub a pos) (fNeg fa) := by
  obtain ⟨t, p, r⟩ := h.ex
  refine ⟨_, pe_un un_neg p, fun as σ H ρ s Q rl en h => ?_⟩
  refine r as σ H ρ s _ rl en (Dn.bind h fun d s1 as1 H1 v st1 rl1 r1 h1 => ?_)
  split at h1
  · cases r1.int_inv
    exact ⟨_, rfl, Dn.now (Q := Q) h1 rl1 (.da (.int _))⟩
  · exact h1.elim
end
end PF
namespace PF
open PySem PySem.Spec
open L2
section
variable {X : Cx} {K : PySem.W.Frag} {as : As} {H : Hp}
def seqD (s : S) : D → Option (List D)
  | .lst ds => some (ds.map D.da)
  | .tup ds => some (ds.map D.da)
  | .con ds => some (ds.map D.da)
  | .frz ds => some (ds.map D.da)
  | .ref n => match s[n]? with
    | some (.lst ds) => some ds
    | _ => none
  | _ => none
theorem seq_ok {s : S} {v : V} {d : D} {ds : List D} (rl : Rel K as H s) (r : RD K as H v d) (h : seqD s d = some ds) : ∃ p xs, v = .ref p ∧ (SqL K H p xs ∨ SqT K H p xs) ∧ RDs K as H xs ds := by
  cases r with
  | da t =>
    cases t with
    | lst n e q => cases h; exact ⟨_, _, rfl, .inl (SqL.of e), q.rd⟩
    | tup n e q => cases h; exact ⟨_, _, rfl, .inr (SqT.of e), q.rd⟩
    | _ => cases h
  | con q r => cases h; exact ⟨_, _, rfl, .inr (q H), r.rd⟩
  | frz q r => cases h; exact ⟨_, _, rfl, .inl (q as H (Step.refl _ _).toStep0), r.rd⟩
  | @ref p n l hr =>
    have h : (match s[n]? with | some (O.lst ds) => some ds | _ => none) = some ds := h
    split at h
    · rename_i ys e
      cases h
      obtain ⟨_, xs, hx, rs⟩ := ref_list rl hr e
      exact ⟨p, xs, rfl, .inl (SqL.of hx), rs⟩
    · cases h
  | _ => cases h
theorem RDs.atI {xs : List V} {ds : List D} {i : Int} {d : D} (r : RDs K as H xs ds) (h : atI ds i = some d) : ∃ v, atI xs i = some v ∧ RD K as H v d := by
  unfold L2.atI at h ⊢
  rw [r.length]
  cases q : ixN ds.length i with
  | none => rw [q] at h; cases h
  | some j =>
    rw [q] at h
    obtain ⟨v, hv, rv⟩ := r.get (show ds[j]? = some d from h)
    exact ⟨v, hv, rv⟩
def gIx (dx dy : D) (s : S) : R D := match dx, dy with
  | .str z, .int i => if z.length ≤ sizeLine then match atI z.cps.toList i with
      | some c => .ok (.str ⟨#[c]⟩) s
      | none => .bad
    else .bad
  | dx, .int i => match seqD s dx with
    | some ds => match atI ds i with
      | some d => .ok d s
      | none => .bad
    | none => .bad
  | _, _ => .bad
theorem ref_ix : Ref2 K (rIx K) gIx := by
  intro as H s x y dx dy Q rl r1 r2 h
  unfold gIx at h
  split at h
  · rename_i z i
    cases r1.str_inv; cases r2.int_inv
    split at h
    · rename_i hz
      split at h
      · rename_i c e
        exact .inr (.inr ⟨z, i, c, rfl, rfl, hz, e, Dn.now (Q := Q) h rl (.da (.str _))⟩)
      · exact h.elim
    · exact h.elim
  · rename_i i _
    cases r2.int_inv
    split at h
    · rename_i ds e
      split at h
      · rename_i d e2
        obtain ⟨p, xs, rfl, sq, rs⟩ := seq_ok rl r1 e
        obtain ⟨v, hv, rv⟩ := rs.atI e2
        rcases sq with sq | sq
        · exact .inl ⟨p, xs, i, v, rfl, rfl, sq, hv, Dn.now (Q := Q) h rl rv⟩
        · exact .inr (.inl ⟨p, xs, i, v, rfl, rfl, sq, hv, Dn.now (Q := Q) h rl rv⟩)
      · exact h.elim
    · exact h.elim
  · exact h.elim
theorem re_ix {a b : Expr} {fa fb : FE} {pos : Pos} (ha : RE X a fa) (hb : RE X b fb) (hs : PlainIx b := by exact fun _ _ => rfl) : RE X (.Subscript a b pos) (fOp gIx fa fb) := by
  obtain ⟨ta, pa, ra⟩ := ha.ex
  obtain ⟨tb, pb, rb⟩ := hb.ex
  exact ⟨_, pe_ix ix_seq pa pb hs, ref_op ref_ix ra rb⟩
def cutL {α : Type} (xs : List α) (lo hi : Option Int) : List α := (xs.drop (HT.sIx xs.length 0 lo)).take (HT.sIx xs.length xs.length hi - HT.sIx xs.length 0 lo)
theorem RDs.cut {xs : List V} {ds : List D} (r : RDs K as H xs ds) (lo hi : Option Int) : RDs K as H (cutV xs lo hi) (cutL ds lo hi) := by
  unfold cutV cutL
  rw [r.length]
  exact (r.drop _).take _
theorem TDs.cut {xs : List V} {ds : List PyData} (r : TDs as H xs ds) (lo hi : Option Int) : TDs as H (cutV xs lo hi) (cutL ds lo hi) := by
  unfold cutV cutL
  rw [r.length]
  exact (r.drop _).take _
def cutS (z : Str) (lo hi : Option Int) : Str := if ((Builtin.Str.strSliceIndices lo hi 1 z.length).length == z.length) = true then z else ⟨((Builtin.Str.strSliceIndices lo hi 1 z.length).filterMap (z.cps[·]?)).toArray⟩
def rSlX : V → Option Int → Option Int → Hp → VK → Prop := fun x lo hi H Q => ∃ z, x = .str z ∧ z.length ≤ sizeLine ∧ Q (.str (cutS z lo hi)) H
theorem sl_strX : SlR X rSlX := by
  intro pins s σ H x v vl vu lo hi sl Q I rx hs pl pu h
  obtain ⟨z, rfl, hz, q⟩ := h
  obtain ⟨t, rfl⟩ := rx
  obtain ⟨l, rfl, el⟩ := part_of pl
  obtain ⟨u, rfl, eu⟩ := part_of pu
  refine ⟨"str", _, PySem.F.slot_str_getitem.lookup, rfl, ?_⟩
  have hs' : s.heap.IsSlice sl l u none := by
    obtain ⟨o, ho, hc, hd⟩ := hs
    exact ⟨o, ho, hc, hd⟩
  refine wpAny_getItem_str_slice hs' rfl ?_
  have ep : slicePicked z l u none = Builtin.Str.strSliceIndices lo hi 1 z.length := by
    unfold slicePicked
    rw [el, eu]; rfl
  have hlen : (slicePicked z l u none).length ≤ z.length := sliceIndices_le _ _ _
  have hfl : ((slicePicked z l u none).filterMap (z.cps[·]?)).length ≤ z.length := Nat.le_trans (List.length_filterMap_le _ _) hlen
  unfold cutS at q
  rw [← ep] at q
  unfold sliceMade
  split
  · rename_i c
    rw [if_pos (by simpa using c)] at q
    exact ⟨.str z, H, I, ⟨t, rfl⟩, q⟩
  · rename_i c
    rw [if_neg (by simpa using c)] at q
    have len : (⟨((slicePicked z l u none).filterMap (z.cps[·]?)).toArray⟩ : Str).length ≤ z.length := by
      show (((slicePicked z l u none).filterMap (z.cps[·]?)).toArray).size ≤ z.length
      rw [List.size_toArray]; exact hfl
    exact ⟨Nat.le_trans len hz, .str _, H, I.tok _, ⟨_, rfl⟩, q⟩
def gSl (m : Bool) (d : D) (lo hi : Option Int) (s : S) : R D := match d with
  | .str z => if z.length ≤ sizeLine then .ok (.str (cutS z lo hi)) s else .bad
  | .tup ds => .ok (.tup (cutL ds lo hi)) s
  | .frz ds => newL m (cutL (ds.map D.da) lo hi) s
  | d => match toL s d with
    | some ds => newL m (cutL ds lo hi) s
    | none => .bad
abbrev FO := En → S → R (Option Int)
def fNo : FO := fun _ s => .ok none s
def fSome (f : FE) : FO := fun ρ s => (f ρ s).bind fun d s1 => match d with
  | .int i => .ok (some i) s1
  | _ => .bad
def RefO (K : PySem.W.Frag) (t : TO) (f : FO) : Prop := ∀ as σ H ρ s Q, Rel K as H s → Envs K as H ρ σ → Dn K (fun _ _ (b a : Option Int) => b = a) as H (f ρ s) Q → t σ H Q
structure ROp (X : Cx) (e : Option Expr) (f : FO) : Prop where
  ex : ∃ t, PO X e t ∧ RefO X.K t f
theorem ro_none : ROp X none fNo := ⟨_, po_none, fun as σ H ρ s Q rl en h => Dn.now (Q := Q) h rl rfl⟩
theorem ro_some {a : Expr} {fa : FE} (h : RE X a fa) : ROp X (some a) (fSome fa) := by
  obtain ⟨t, p, r⟩ := h.ex
  refine ⟨_, po_some p, fun as σ H ρ s Q rl en h => ?_⟩
  refine r as σ H ρ s _ rl en (Dn.bind h fun d s1 as1 H1 v st1 rl1 r1 h1 => ?_)
  split at h1
  · cases r1.int_inv
    exact ⟨_, rfl, Dn.now (Q := Q) h1 rl1 rfl⟩
  · exact h1.elim
def fSl (m : Bool) (f : FE) (lo hi : FO) : FE := fun ρ s => (f ρ s).bind fun d s1 => (lo ρ s1).bind fun l s2 => (hi ρ s2).bind fun u s3 => gSl m d l u s3
theorem re_slice (m : Bool) {a : Expr} {lo hi : Option Expr} {fa : FE} {fl fu : FO} {p2 pos : Pos} (ha : RE X a fa) (hl : ROp X lo fl) (hu : ROp X hi fu) : RE X (.Subscript a (.Slice lo hi none p2) pos) (fSl m fa fl fu) := by
  obtain ⟨ta, pa, ra⟩ := ha.ex
  obtain ⟨tl, pl, rl'⟩ := hl.ex
  obtain ⟨tu, pu, ru⟩ := hu.ex
  refine ⟨_, pe_slice (sl_strX.or (sl_tupA.or sl_listN)) pa pl pu, fun as σ H ρ s Q rl en h => ?_⟩
  refine ra as σ H ρ s _ rl en (Dn.bind h fun d s1 as1 H1 v st1 rl1 r1 h1 => ?_)
  refine rl' as1 σ H1 ρ s1 _ rl1 (en.mono st1) (Dn.bind h1 fun l s2 as2 H2 l' st2 rl2 e2 h2 => ?_)
  have e2 : l' = l := e2
  subst e2
  refine ru as2 σ H2 ρ s2 _ rl2 ((en.mono st1).mono st2) (Dn.bind h2 fun u s3 as3 H3 u' st3 rl3 e3 h3 => ?_)
  have e3 : u' = u := e3
  subst e3
  have r1 := (r1.mono st2).mono st3
  unfold gSl at h3
  split at h3
  · cases r1.str_inv
    split at h3
    · rename_i hz
      exact .inl ⟨_, rfl, hz, Dn.now (Q := Q) h3 rl3 (.da (.str _))⟩
    · exact h3.elim
  · obtain ⟨p, xs, rfl, n, e, t⟩ := r1.tup_inv
    refine .inr (.inl ⟨p, xs, rfl, SqT.of e, fun c => ?_, fun q H' nw => ?_⟩)
    · have t2 := t.cut l' u'
      rw [c] at t2
      exact Dn.now (Q := Q) h3 rl3 (.da (.tup n e t2))
    · exact h3 (.ref q) as3 H' (step_new nw) (rl3.new nw) (.da (.tup (fun z => rl3.has z nw.no) nw.at ((t.cut l' u').mono (step_new nw))))
  · cases r1 with
    | frz q t => exact .inr (.inr ⟨_, _, rfl, q as3 H3 (Step.refl _ _).toStep0, fun r H' nw => newL_ok h3 rl3 (t.rd.cut l' u') nw⟩)
  · split at h3
    · rename_i ds e
      obtain ⟨p, xs, rfl, hx, rs⟩ := toL_ok rl3 r1 e
      exact .inr (.inr ⟨p, xs, rfl, SqL.of hx, fun r H' nw => newL_ok h3 rl3 (rs.cut l' u') nw⟩)
    · exact h3.elim
def fRev (fa fs : FE) : FE := fun ρ s => (fa ρ s).bind fun d s1 => (fs ρ s1).bind fun k s2 => match d, k with
  | .tup ds, .int (-1) => .ok (.tup ds.reverse) s2
  | _, _ => .bad
theorem re_rev {a st : Expr} {fa fs : FE} {p2 pos : Pos} (ha : RE X a fa) (hs : RE X st fs) : RE X (.Subscript a (.Slice none none (some st) p2) pos) (fRev fa fs) := by
  obtain ⟨ta, pa, ra⟩ := ha.ex
  obtain ⟨tb, pb, rb⟩ := hs.ex
  refine ⟨_, pe_rev pa pb, fun as σ H ρ s Q rl en h => ?_⟩
  refine ra as σ H ρ s _ rl en (Dn.bind h fun d s1 as1 H1 v st1 rl1 r1 h1 => ?_)
  refine rb as1 σ H1 ρ s1 _ rl1 (en.mono st1) (Dn.bind h1 fun k s2 as2 H2 w st2 rl2 r2 h2 => ?_)
  split at h2
  · obtain ⟨p, xs, rfl, n, e, t⟩ := (r1.mono st2).tup_inv
    cases r2.int_inv
    refine ⟨p, xs, rfl, rfl, SqT.of e, fun q H' nw => ?_⟩
    exact h2 (.ref q) as2 H' (step_new nw) (rl2.new nw) (.da (.tup (fun z => rl2.has z nw.no) nw.at (t.reverse.mono (step_new nw))))
  · exact h2.elim
def gTru (d : D) (s : S) : R Bool := match d with
  | .non => .ok false s
  | .bl b => .ok b s
  | .int i => .ok (i != 0) s
  | .str z => if z.length ≤ sizeLine then .ok ((z.length : Int) != 0) s else .bad
  | d => match seqD s d with
    | some ds => .ok (!ds.isEmpty) s
    | none => .bad
def fTru (f : FE) : FT := fun ρ s => (f ρ s).bind gTru
theorem RDs.empty {xs : List V} {ds : List D} (r : RDs K as H xs ds) : xs.isEmpty = ds.isEmpty := by cases r <;> rfl
theorem rt_tru {a : Expr} {fa : FE} (h : RE X a fa) (he : ∀ whole, isTrue a X.env whole = (do let v ← whole; standAt a.pos; holding [v] (truthy v)) := by exact fun _ => rfl) : RT X a (fTru fa) := by
  obtain ⟨t, p, r⟩ := h.ex
  refine ⟨_, pt_truth p he, fun as σ H ρ s Q rl en h => ?_⟩
  refine r as σ H ρ s _ rl en (Dn.bind h fun d s1 as1 H1 v st1 rl1 r1 h1 => ?_)
  unfold gTru at h1
  split at h1
  · cases r1.non_inv; exact ⟨false, rfl, Dn.now (Q := Q) h1 rl1 rfl⟩
  · cases r1.bl_inv; exact ⟨_, rfl, Dn.now (Q := Q) h1 rl1 rfl⟩
  · cases r1.int_inv; exact ⟨_, rfl, Dn.now (Q := Q) h1 rl1 rfl⟩
  · cases r1.str_inv
    split at h1
    · rename_i hz
      exact ⟨_, ⟨hz, rfl⟩, Dn.now (Q := Q) h1 rl1 rfl⟩
    · exact h1.elim
  · split at h1
    · rename_i ds e
      obtain ⟨p, xs, rfl, sq, rs⟩ := seq_ok rl1 r1 e
      refine ⟨!xs.isEmpty, ?_, ?_⟩
      · rcases sq with sq | sq
        · exact .inl ⟨xs, sq, rfl⟩
        · exact .inr (.inl ⟨xs, sq, rfl⟩)
      · rw [rs.empty]; exact Dn.now (Q := Q) h1 rl1 rfl
    · exact h1.elim
structure CB (X : Cx) (f : Value) (g : FF) : Prop where
  ex : ∃ r, CallR X f r ∧ ∀ as H s xs ds Q, Rel X.K as H s → RDs X.K as H xs ds → Dn X.K (rD X.K) as H (g ds s) Q → r xs H Q
theorem cb_of {f : Value} {g : FF} (h : ∀ (pins : List (Addr × Obj)) (sh : Shared) (σ : St) (H : Hp) (as : As) (s : S) (xs : List V) (ds : List D) (us : List Value) (Q : VK), Inv X pins σ H sh → Rel X.K as H s → RDs X.K as H xs ds → Vals xs us →
    Dn X.K (rD X.K) as H (g ds s) Q → wpAny (model X.prog X.w) X.A (call f us) (EP X pins σ Q) X.xe sh) : CB X f g :=
  ⟨fun xs H Q => ∃ as s ds, Rel X.K as H s ∧ RDs X.K as H xs ds ∧ Dn X.K (rD X.K) as H (g ds s) Q, fun pins sh σ H xs us Q I r ⟨as, s, ds, rl, rs, q⟩ => h pins sh σ H as s xs ds us Q I rl rs r q, fun as H s xs ds Q rl rs q => ⟨as, s, ds, rl, rs, q⟩⟩
def fCB (g : FF) (f : FA) : FE := fun ρ s => (f ρ s).bind g
section
variable {x : Str} {id : String} {g : FF} {f : FA} {e : Expr} {es : List Expr} {p pos : Pos}
theorem ref_cb {r : List V → Hp → VK → Prop} {t : TA} (hr : ∀ as H s xs ds Q, Rel K as H s → RDs K as H xs ds → Dn K (rD K) as H (g ds s) Q → r xs H Q) (h : RefA K t f) : RefE K (tCB r t) (fCB g f) := by
  intro as σ H ρ s Q rl en q
  exact h as σ H ρ s _ rl en (Dn.bind q fun ds s1 as1 H1 vs st1 rl1 r1 h1 => hr as1 H1 s1 vs ds Q rl1 r1 h1)
theorem re_cb (c : CB X (.builtin id) g) (hm : X.mg x = none) (hv : bootBuiltins x = some (.builtin id)) (ha : RA X (e :: es) f) (hg : Gl X x := by rfl) (hn : x ≠ "__name__" := by decide) (hdb : (x == ("__debug__" : Str)) = false := by decide)
    (hs : starEach (e :: es) X.env = (false, eval e X.env) :: starEach es X.env := by rfl) (hpl : (backTo pos (starEach es X.env)).any (·.1) = false := by rfl) : RE X (.Call (.Name x p) (e :: es) [] pos) (fCB g f) := by
  obtain ⟨r, hc, hr⟩ := c.ex
  obtain ⟨t, pa, ra⟩ := ha.ex
  exact ⟨_, pe_callB hc hg hm hv pa hn hdb hs hpl, ref_cb hr ra⟩
theorem re_ct (c : CB X (.type id) g) (hm : X.mg x = none) (hv : bootBuiltins x = some (.type id)) (ha : RA X (e :: es) f) (hg : Gl X x := by rfl) (hn : x ≠ "__name__" := by decide) (hdb : (x == ("__debug__" : Str)) = false := by decide)
    (hs : starEach (e :: es) X.env = (false, eval e X.env) :: starEach es X.env := by rfl) (hpl : (backTo pos (starEach es X.env)).any (·.1) = false := by rfl) : RE X (.Call (.Name x p) (e :: es) [] pos) (fCB g f) := by
  obtain ⟨r, hc, hr⟩ := c.ex
  obtain ⟨t, pa, ra⟩ := ha.ex
  exact ⟨_, pe_callTy hc hg hm hv pa hn hdb hs hpl, ref_cb hr ra⟩
end
def gLen (ds : List D) (s : S) : R D := match ds with
  | [.str z] => if z.length ≤ sizeLine then .ok (.int z.length) s else .bad
  | [d] => match seqD s d with
    | some xs => .ok (.int xs.length) s
    | none => .bad
  | _ => .bad
theorem c_len : CB X (.builtin "len") gLen := cb_of fun pins sh σ H as s xs ds us Q I rl rs ru h => by
  unfold gLen at h
  split at h
  · obtain ⟨v, rfl, rv⟩ := rs.one
    cases rv.str_inv
    split at h
    · rename_i hz
      exact call_len_str pins sh σ H _ us Q I ru ⟨_, rfl, hz, Dn.now (Q := Q) h rl (.da (.int _))⟩
    · exact h.elim
  · obtain ⟨v, rfl, rv⟩ := rs.one
    split at h
    · rename_i ys e
      obtain ⟨p, zs, rfl, sq, rz⟩ := seq_ok rl rv e
      refine call_len_seq pins sh σ H _ us Q I ru ⟨p, zs, rfl, sq, ?_⟩
      rw [rz.length]
      exact Dn.now (Q := Q) h rl (.da (.int _))
    · exact h.elim
  · exact h.elim
def gMin (ds : List D) (s : S) : R D := match ds with
  | [.int i, .int j] => .ok (.int (if j < i then j else i)) s
  | _ => .bad
def gMax (ds : List D) (s : S) : R D := match ds with
  | [.int i, .int j] => .ok (.int (if j > i then j else i)) s
  | _ => .bad
theorem c_min (hc : X.calm = true) : CB X (.builtin "min") gMin := cb_of fun pins sh σ H as s xs ds us Q I rl rs ru h => by
  unfold gMin at h
  split at h
  · obtain ⟨v, w, rfl, rv, rw⟩ := rs.two
    cases rv.int_inv; cases rw.int_inv
    exact call_min2 hc pins sh σ H _ us Q I ru ⟨_, _, rfl, Dn.now (Q := Q) h rl (.da (.int _))⟩
  · exact h.elim
def gList (m : Bool) (ds : List D) (s : S) : R D := match ds with
  | [d] => match seqD s d with
    | some xs => newL m xs s
    | none => .bad
  | _ => .bad
theorem c_list (m : Bool) : CB X (.type "list") (gList m) := cb_of fun pins sh σ H as s xs ds us Q I rl rs ru h => by
  unfold gList at h
  split at h
  · obtain ⟨v, rfl, rv⟩ := rs.one
    split at h
    · rename_i ys e
      obtain ⟨p, zs, rfl, sq, rz⟩ := seq_ok rl rv e
      exact call_listN pins sh σ H _ us Q I ru ⟨p, zs, rfl, sq, fun r H' nw => newL_ok h rl rz nw⟩
    · exact h.elim
  · exact h.elim
def gTuple (ds : List D) (s : S) : R D := match ds with
  | [.tup xs] => .ok (.tup xs) s
  | [.frz xs] => .ok (.tup xs) s
  | [d] => match toL s d with
    | some xs => newT xs s
    | none => .bad
  | _ => .bad
theorem c_tuple : CB X (.type "tuple") gTuple := cb_of fun pins sh σ H as s xs ds us Q I rl rs ru h => by
  unfold gTuple at h
  split at h
  · obtain ⟨v, rfl, rv⟩ := rs.one
    obtain ⟨p, zs, rfl, n, e, t⟩ := rv.tup_inv
    exact call_tupleN pins sh σ H _ us Q I ru ⟨p, zs, rfl, .inr ⟨SqT.of e, Dn.now (Q := Q) h rl (.da (.tup n e t))⟩⟩
  · obtain ⟨v, rfl, rv⟩ := rs.one
    cases rv with
    | frz q t => exact call_tupleN pins sh σ H _ us Q I ru ⟨_, _, rfl, .inl ⟨q as H (Step.refl _ _).toStep0, fun r H' nw => h (.ref r) as H' (step_new nw) (rl.new nw) (.da (.tup (fun z => rl.has z nw.no) nw.at (t.mono (step_new nw))))⟩⟩
  · obtain ⟨v, rfl, rv⟩ := rs.one
    split at h
    · rename_i ys e
      obtain ⟨p, zs, rfl, hx, rz⟩ := toL_ok rl rv e
      exact call_tupleN pins sh σ H _ us Q I ru ⟨p, zs, rfl, .inl ⟨SqL.of hx, fun r H' nw => newT_ok h rl rz nw⟩⟩
    · exact h.elim
  · exact h.elim
def gIsi (ds : List D) (s : S) : R D := match ds with
  | [d, .ty n] => if n = "str" ∨ n = "int" ∨ n = "bool" ∨ n = "tuple" ∨ n = "list" then match d with
      | .da d => .ok (.bl (isiD d n)) s
      | .ref k => match s[k]? with
        | some (.lst _) => .ok (.bl (n == "list")) s
        | _ => .bad
      | _ => .bad
    else .bad
  | _ => .bad
theorem TD.ty {v : V} {d : PyData} (t : TD as H v d) : TyOf K H v (.type (tyD d)) := by
  cases t with
  | non => exact .non
  | bl b => exact .bl b
  | int i => exact .int i
  | str x => exact .str x
  | tup n e w => exact .tup e
  | lst n e w => exact .lst e
theorem c_isi : CB X (.builtin "isinstance") gIsi := cb_of fun pins sh σ H as s xs ds us Q I rl rs ru h => by
  unfold gIsi at h
  split at h
  · rename_i d n
    obtain ⟨v, w, rfl, rv, rw⟩ := rs.two
    obtain ⟨u, u2, rfl, ru1, ru2⟩ := vals2 ru
    cases rw
    cases (show u2 = Value.type n from ru2)
    split at h
    · rename_i hn
      split at h
      · rename_i d
        cases rv with
        | da t => exact isinst_ok I ru1 t.ty (kit_ok X.K d n hn) fun tk => ⟨.bl _, H, I.tok _, rfl, Dn.now (Q := Q) h rl (.da (.bl _))⟩
      · rename_i k
        split at h
        · rename_i ys e
          cases rv with
          | ref l hr =>
            obtain ⟨_, zs, hz, _⟩ := ref_list rl hr e
            exact isinst_ok I ru1 (.lst hz) (kit_ok X.K (.list []) n hn) fun tk => ⟨.bl _, H, I.tok _, rfl, Dn.now (Q := Q) h rl (.da (.bl _))⟩
        · exact h.elim
      · exact h.elim
    · exact h.elim
  · exact h.elim
def okS (d : PyData) : Bool := d.canLay0 && d.showable && decide (d.depth ≤ 64) && decide (d.shown.length ≤ sizeLine)
def gRepr (ds : List D) (s : S) : R D := match ds with
  | [d] => match toP s d with
    | some a => if okS a = true then .ok (.str a.shown) s else .bad
    | none => .bad
  | _ => .bad
theorem c_repr {k : Nat} (hr : Room k X.A) : CB X (.builtin "repr") gRepr := cb_of fun pins sh σ H as s xs ds us Q I rl rs ru h => by
  unfold gRepr at h
  split at h
  · obtain ⟨v, rfl, rv⟩ := rs.one
    obtain ⟨u, rfl, ru1⟩ := vals1 ru
    split at h
    · rename_i a e
      split at h
      · rename_i ok
        unfold okS at ok
        (simp only [Bool.and_eq_true, decide_eq_true_eq] at ok)
        obtain ⟨⟨⟨ok1, ok2⟩, ok3⟩, ok4⟩ := ok
        have hun := hr.un
        obtain ⟨bs, q⟩ := rv.reads I rl e ru1
        have fin : Q (.str a.shown) H := Dn.now (Q := Q) h rl (.da (.str _))
        have nd := PyData.hasDict_of_canLay a ok1
        cases q with
        | none => exact PySem.P.repr_of_none ⟨.str "None", H, I.tok _, ⟨_, rfl⟩, fin⟩
        | bool b => exact PySem.P.repr_of_bool ⟨.str (if b then "True" else "False"), H, I.tok _, ⟨_, rfl⟩, fin⟩
        | int i t => exact PySem.P.repr_of_int (by simpa [PyData.showable] using ok2) ⟨.str (toString i), H, I.tok _, ⟨_, rfl⟩, fin⟩
        | str x t => exact PySem.P.repr_of_str ⟨.str (reprText x), H, I.tok _, ⟨_, rfl⟩, fin⟩ (by simpa [PyData.shown] using ok4)
        | tuple k1 k2 k3 k4 => exact repr_of_reads' (.tuple k1 k2 k3 k4) ok2 (fun z => by rw [nd] at z; cases z) hr.gd (by omega) (fun _ _ e => e) (fun h' u tk hk => ⟨.str _, H, I.kept hk, ⟨u, rfl⟩, fin⟩) ok4
        | list k1 k2 k3 k4 => exact repr_of_reads' (.list k1 k2 k3 k4) ok2 (fun z => by rw [nd] at z; cases z) hr.gd (by omega) (fun _ _ e => e) (fun h' u tk hk => ⟨.str _, H, I.kept hk, ⟨u, rfl⟩, fin⟩) ok4
        | dict => cases ok1
      · exact h.elim
    · exact h.elim
  · exact h.elim
end
end PF
namespace PF
open PySem PySem.Spec
open L2
section
variable {X : Cx} {K : PySem.W.Frag} {as : As} {H : Hp}
abbrev GM := D → List D → S → R D
def fMt (g : GM) (fo : FE) (fa : FA) : FE := fun ρ s => (fo ρ s).bind fun d s1 => if (toL s1 d).isSome = true then (fa ρ s1).bind fun ds s2 => g d ds s2 else .bad
structure MB (X : Cx) (id : String) (g : GM) : Prop where
  ex : ∃ r, MtR X id r ∧ ∀ as H s x xs d ds Q, Rel X.K as H s → RD X.K as H x d → RDs X.K as H xs ds → Dn X.K (rD X.K) as H (g d ds s) Q → r x xs H Q
theorem ty_list {s : S} {v : V} {d : D} (rl : Rel K as H s) (r : RD K as H v d) (h : (toL s d).isSome = true) : tyV K "list" v H := by
  cases e : toL s d with
  | none => rw [e] at h; cases h
  | some ds =>
    obtain ⟨p, xs, rfl, hx, _⟩ := toL_ok rl r e
    exact .inl ⟨rfl, xs, SqL.of hx⟩
theorem re_mt {o e : Expr} {es : List Expr} {fo : FE} {fa : FA} {name : Str} {id : String} {g : GM} {apos cpos : Pos} (slot : Slot "list" name id) (hty : typeOf (.builtin id) = pure (.type "method_descriptor")) (hm : MB X id g) (ho : RE X o fo) (ha : RA X (e :: es) fa)
    (hbase : attributeBase o name X.env (eval o X.env) = eval o X.env := by rfl)
    (hfew : ((backTo cpos (starEach (e :: es) X.env)).all (fun x => !x.1) && (backToKw cpos (keywordEach [] X.env)).all (fun x => x.1.isSome)
      && decide ((e :: es).length + ([] : List Keyword).length + (if ([] : List Keyword).isEmpty then 0 else 1) < 30)) = true := by rfl)
    (hline : (apos.endLine == cpos.line) = true := by rfl) (hs : starEach (e :: es) X.env = (false, eval e X.env) :: starEach es X.env := by rfl) (hplain : (backTo cpos (starEach es X.env)).any (·.1) = false := by rfl) :
    RE X (.Call (.Attribute o name apos) (e :: es) [] cpos) (fMt g fo fa) := by
  obtain ⟨r, hr, hg⟩ := hm.ex
  obtain ⟨to, po, ro⟩ := ho.ex
  obtain ⟨ta, pa, ra⟩ := ha.ex
  refine ⟨_, pe_bm PySem.F.plainAttrs_list slot hty hr po pa hbase hfew hline hs hplain, fun as σ H ρ s Q rl en h => ?_⟩
  refine ro as σ H ρ s _ rl en (Dn.bind h fun d s1 as1 H1 v st1 rl1 r1 h1 => ?_)
  split at h1
  · rename_i hl
    refine ⟨ty_list rl1 r1 hl, ra as1 σ H1 ρ s1 _ rl1 (en.mono st1) (Dn.bind h1 fun ds s2 as2 H2 vs st2 rl2 r2 h2 => ?_)⟩
    exact hg as2 H2 s2 v vs d ds Q rl2 (r1.mono st2) r2 h2
  · exact h1.elim
theorem chg_ok {s : S} {p : Addr} {n : Nat} {o : HO} {H' : Hp} {d : D} {v : V} {ys : List V} {es : List D} {Q : VK} (rl : Rel K as H s) (ha : as.ix[n]? = some (some p)) (c : Chg H p (.lst ys) H') (rs : RDs K as H ys es) (rv : RD K as H v d) (h : Dn K (rD K) as H (.ok d (s.set n (.lst es))) Q) : Q v H' := by
  have st := step_chg (mem_as.mpr ⟨n, ha⟩) (fun z => rl.hx p z (mem_as.mpr ⟨n, ha⟩)) c
  exact h v as H' st (rl.chg ha c ⟨ys, c.at, rs.mono st⟩) (rv.mono st)
def onL (d : D) (s : S) (k : Nat → List D → R D) : R D := match d with
  | .ref n => match s[n]? with
    | some (.lst ds) => k n ds
    | _ => .bad
  | _ => .bad
theorem onL_ok {s : S} {d : D} {v : V} {k : Nat → List D → R D} {Q : VK} (rl : Rel K as H s) (r : RD K as H v d) (h : Dn K (rD K) as H (onL d s k) Q) : ∃ p n xs ds, v = .ref p ∧ as.ix[n]? = some (some p) ∧ H p = some (.lst xs) ∧ RDs K as H xs ds ∧ Dn K (rD K) as H (k n ds) Q := by
  cases r with
  | @ref p n l hr =>
    have h : Dn K (rD K) as H (match s[n]? with | some (O.lst ds) => k n ds | _ => .bad) Q := h
    split at h
    · rename_i ds e
      obtain ⟨ha, xs, hx, rs⟩ := ref_list rl hr e
      exact ⟨p, n, xs, ds, rfl, ha, hx, rs, h⟩
    · exact h.elim
  | _ => exact h.elim
def gAppend : GM := fun d ds s => match ds with
  | [x] => onL d s fun n xs => if xs.length < sizeLine then .ok .non (s.set n (.lst (xs ++ [x]))) else .bad
  | _ => .bad
theorem m_append : MB X "list.append" gAppend := ⟨_, mt_appendN, fun as H s x xs d ds Q rl r rs h => by
  unfold gAppend at h
  split at h
  · obtain ⟨v, rfl, rv⟩ := rs.one
    obtain ⟨p, n, ys, es, rfl, ha, hy, re, h⟩ := onL_ok rl r h
    split at h
    · rename_i hz
      exact ⟨p, ys, v, rfl, rfl, hy, by rw [re.length]; exact hz, fun H' c => chg_ok (o := .lst []) rl ha c (re.append (.cons rv .nil)) (.da .non) h⟩
    · exact h.elim
  · exact h.elim⟩
def gPopAt : GM := fun d ds s => match ds with
  | [.int i] => onL d s fun n xs => if -(2 ^ 63) ≤ i ∧ i < 2 ^ 63 then match seqIndex? i xs.length with
      | some k => match xs[k]? with
        | some y => .ok y (s.set n (.lst (xs.eraseIdx k)))
        | none => .bad
      | none => .bad
    else .bad
  | _ => .bad
theorem m_popAt : MB X "list.pop" gPopAt := ⟨_, mt_popAtN, fun as H s x xs d ds Q rl r rs h => by
  unfold gPopAt at h
  split at h
  · obtain ⟨v, rfl, rv⟩ := rs.one
    cases rv.int_inv
    obtain ⟨p, n, ys, es, rfl, ha, hy, re, h⟩ := onL_ok rl r h
    split at h
    · rename_i hz
      split at h
      · rename_i k e
        split at h
        · rename_i y ey
          obtain ⟨w, hw, rw⟩ := re.get ey
          exact ⟨p, ys, _, k, w, rfl, rfl, hy, hz.1, hz.2, by rw [re.length]; exact e, hw, fun H' c => chg_ok (o := .lst []) rl ha c (re.eraseIdx k) rw h⟩
        · exact h.elim
      · exact h.elim
    · exact h.elim
  · exact h.elim⟩
def gPop : GM := fun d ds s => match ds with
  | [] => onL d s fun n xs => match xs[xs.length - 1]? with
      | some y => .ok y (s.set n (.lst xs.dropLast))
      | none => .bad
  | _ => .bad
def rPopN : V → List V → Hp → VK → Prop := fun x vs H Q => ∃ l xs y, x = .ref l ∧ vs = [] ∧ H l = some (.lst xs) ∧ xs[xs.length - 1]? = some y ∧ ∀ H', Chg H l (.lst xs.dropLast) H' → Q y H'
def gExtend : GM := fun d ds s => match ds with
  | [.tup ys] => onL d s fun n xs => if xs.length + ys.length ≤ sizeLine then .ok .non (s.set n (.lst (xs ++ ys.map D.da))) else .bad
  | [e] => match toL s e with
    | some ys => onL d s fun n xs => if xs.length + ys.length ≤ sizeLine then .ok .non (s.set n (.lst (xs ++ ys))) else .bad
    | none => .bad
  | _ => .bad
theorem mt_or {id : String} {r r' : V → List V → Hp → VK → Prop} (h : MtM X id r) (h' : MtM X id r') : MtR X id (fun x xs H Q => r x xs H Q ∨ r' x xs H Q) := MtR.or h h'
theorem m_extend : MB X "list.extend" gExtend := ⟨_, mt_or mt_extendN mt_extendTN, fun as H s x xs d ds Q rl r rs h => by
  unfold gExtend at h
  split at h
  · obtain ⟨v, rfl, rv⟩ := rs.one
    obtain ⟨p, n, ys, es, rfl, ha, hy, re, h⟩ := onL_ok rl r h
    split at h
    · rename_i hz
      obtain ⟨q, zs, rfl, _, e, t⟩ := rv.tup_inv
      exact .inr ⟨p, q, ys, zs, rfl, rfl, hy, SqT.of e, by rw [re.length, t.length]; exact hz, fun H' c => chg_ok (o := .lst []) rl ha c (re.append t.rd) (.da .non) h⟩
    · exact h.elim
  · obtain ⟨v, rfl, rv⟩ := rs.one
    split at h
    · rename_i zs e
      obtain ⟨q, ws, rfl, hq, rz⟩ := toL_ok rl rv e
      obtain ⟨p, n, ys, es, rfl, ha, hy, re, h⟩ := onL_ok rl r h
      split at h
      · rename_i hz
        exact .inl ⟨p, q, ys, ws, rfl, rfl, hy, hq, by rw [re.length, rz.length]; exact hz, fun H' c => chg_ok (o := .lst []) rl ha c (re.append rz) (.da .non) h⟩
      · exact h.elim
    · exact h.elim
  · exact h.elim⟩
def gSet (o i v : D) (s : S) : R D := match i with
  | .int k => onL o s fun n xs => match ixN xs.length k with
    | some j => .ok .non (s.set n (.lst (xs.set j v)))
    | none => .bad
  | _ => .bad
def fSetIt (fv fo fi : FE) : FS := fun ρ s => (fv ρ s).bind fun v s1 => (fo ρ s1).bind fun o s2 => (fi ρ s2).bind fun i s3 => (gSet o i v s3).bind fun _ s4 => .ok (.nx ρ) s4
theorem rs_sub {o i e : Expr} {fo fi fv : FE} {pos pos' : Pos} (he : RE X e fv) (ho : RE X o fo) (hi : RE X i fi) (ha : ∀ v, assign (.Subscript o i pos') X.env v = (do
      let ov ← holding [v] (eval o X.env)
      let iv ← holding [v, ov] (eval i X.env)
      standAt pos'
      holding [v, ov, iv] (setItem ov iv v)
      release [v, ov, iv] []) := by intro _; rfl) (hs : swapsWithSole [.Subscript o i pos'] e pos.line X.env = pure false := by rfl) (hw : swappedStores [.Subscript o i pos'] e X.env = pure none := by rfl)
    (h1 : (assignEach [.Subscript o i pos'] X.env).map (·.2) = [assign (.Subscript o i pos') X.env] := by rfl) : RS X (.Assign [.Subscript o i pos'] e pos) (fSetIt fv fo fi) := by
  obtain ⟨te, pe, re⟩ := he.ex
  obtain ⟨to, po, ro⟩ := ho.ex
  obtain ⟨ti, pi, ri⟩ := hi.ex
  refine ⟨_, ps_asg pe (pg_sub po pi set_listN ha) hs hw h1, fun as σ H ρ s D rl en h => ?_⟩
  refine re as σ H ρ s _ rl en (Dn.bind h fun v s1 as1 H1 vv st1 rl1 r1 h1 => ?_)
  refine ro as1 σ H1 ρ s1 _ rl1 (en.mono st1) (Dn.bind h1 fun o s2 as2 H2 ov st2 rl2 r2 h2 => ?_)
  refine ri as2 σ H2 ρ s2 _ rl2 ((en.mono st1).mono st2) (Dn.bind h2 fun i s3 as3 H3 iv st3 rl3 r3 h3 => ?_)
  have en3 := ((en.mono st1).mono st2).mono st3
  have h3 : Dn X.K (rD X.K) as3 H3 (gSet o i v s3) (fun _ H' => D.nx σ H') := Dn.bind h3 fun d s4 as4 H4 vv st4 rl4 r4 h4 => Dn.now (b := FV.nx σ) h4 rl4 (.nx (en3.mono st4))
  unfold gSet at h3
  split at h3
  · cases r3.int_inv
    obtain ⟨p, n, xs, ds, rfl, ha, hx, rs, h3⟩ := onL_ok rl3 (r2.mono st3) h3
    split at h3
    · rename_i j e
      refine ⟨p, xs, _, j, rfl, rfl, hx, by rw [rs.length]; exact e, fun H' c => ?_⟩
      exact chg_ok (v := .non) (o := .lst []) rl3 ha c (rs.set j ((r1.mono st2).mono st3)) (.da .non) h3
    · exact h3.elim
  · exact h3.elim
def srtS (xs : List Str) : List Str := xs.mergeSort fun a b => decide (a.cps.toList ≤ b.cps.toList)
theorem srt_perm (xs : List Str) : (srtS xs).Perm xs := List.mergeSort_perm _ _
theorem srt_pw (xs : List Str) : (srtS xs).Pairwise leS := by
  have h := List.pairwise_mergeSort (le := fun a b : Str => decide (a.cps.toList ≤ b.cps.toList)) (fun a b c h1 h2 => decide_eq_true (List.le_trans (of_decide_eq_true h1) (of_decide_eq_true h2)))
    (fun a b => by
      rw [Bool.or_eq_true, decide_eq_true_eq, decide_eq_true_eq]
      exact List.le_total _ _) xs
  exact h.imp fun {a b} q => leS_le.mpr (of_decide_eq_true q)
theorem srt_uniq {ss xs : List Str} (p : ss.Perm xs) (s : PyProof.Rows.sortedS ss = true) : ss = srtS xs := perm_sorted (sorted_pw s) (srt_pw xs) (p.trans (srt_perm xs).symm)
def strsD : List D → Option (List Str)
  | [] => some []
  | .str x :: r => match strsD r with
    | some xs => some (x :: xs)
    | none => none
  | _ => none
theorem strs_ok : ∀ {xs : List V} {ds : List D} {ss : List Str}, RDs K as H xs ds → strsD ds = some ss → xs = ss.map V.str ∧ ds = ss.map D.str
  | _, [], ss, r, h => by cases r; cases h; exact ⟨rfl, rfl⟩
  | _, d :: ds, ss, r, h => by
    cases r with
    | cons r rs =>
      unfold strsD at h
      split at h
      · rename_i e; cases e
      · rename_i x rr e
        cases e
        split at h
        · rename_i ys e2
          cases h
          obtain ⟨h1, h2⟩ := strs_ok rs e2
          cases r.str_inv
          rw [h1, h2]; exact ⟨rfl, rfl⟩
        · cases h
      · cases h
theorem strsD_map : ∀ ss : List Str, strsD (ss.map D.str) = some ss
  | [] => rfl
  | s :: r => by rw [List.map_cons, strsD, strsD_map r]
theorem RDs.strs : ∀ ss : List Str, RDs K as H (ss.map V.str) (ss.map D.str)
  | [] => .nil
  | s :: r => .cons (.da (.str s)) (RDs.strs r)
def gSortSet (m : Bool) (ds : List D) (s : S) : R D := match ds with
  | [d] => match (seqD s d).bind strsD with
    | some ss => if ss.length < 4000 ∧ (uniq ss).length < 64 then newL m ((srtS (uniq ss)).map D.str) s else .bad
    | none => .bad
  | _ => .bad
theorem re_sortset (m : Bool) {e : Expr} {f : FA} {p1 p2 pos pos2 : Pos} (hc : X.calm = true) (hm1 : X.mg "sorted" = none) (hm2 : X.mg "set" = none) (ha : RA X [e] f) (hg1 : Gl X "sorted" := by rfl) (hg2 : Gl X "set" := by rfl)
    (hs : starEach [e] X.env = (false, eval e X.env) :: starEach [] X.env := by rfl) (hs2 : starEach [.Call (.Name "set" p2) [e] [] pos2] X.env = (false, eval (.Call (.Name "set" p2) [e] [] pos2) X.env) :: starEach [] X.env := by rfl)
    (hpl : (backTo pos (starEach [] X.env)).any (·.1) = false := by rfl) (hpl2 : (backTo pos2 (starEach [] X.env)).any (·.1) = false := by rfl) :
    RE X (.Call (.Name "sorted" p1) [.Call (.Name "set" p2) [e] [] pos2] [] pos) (fCB (gSortSet m) f) := by
  obtain ⟨t, pa, ra⟩ := ha.ex
  have pset := pe_callTy (X := X) (call_setS hc) hg2 hm2 b_set pa (pos := pos2) (p := p2) (by decide) (by decide) hs hpl2
  have psort := pe_callB (X := X) (call_sorted hc) hg1 hm1 b_sorted (pa_cons pset pa_nil hs2) (pos := pos) (p := p1) (by decide) (by decide) hs2 hpl
  refine ⟨_, psort, fun as σ H ρ s Q rl en h => ?_⟩
  refine ra as σ H ρ s _ rl en (Dn.bind h fun ds s1 as1 H1 vs st1 rl1 r1 h1 => ?_)
  unfold gSortSet at h1
  split at h1
  · obtain ⟨v, rfl, rv⟩ := r1.one
    split at h1
    · rename_i ss e
      split at h1
      · rename_i hz
        cases e2 : seqD s1 _ with
        | none => rw [e2] at e; cases e
        | some xs =>
          rw [e2] at e
          obtain ⟨p, zs, rfl, sq, rz⟩ := seq_ok rl1 rv e2
          obtain ⟨ez, ex⟩ := strs_ok rz (show strsD xs = some ss from e)
          subst ez
          refine ⟨p, ss, rfl, sq, hz.1, fun q H2 n2 => ⟨q, uniq ss, rfl, .set ss n2.at, hz.2, fun tt r H3 pm so n3 => ?_⟩⟩
          have et := srt_uniq pm so
          subst et
          exact newL_ok (Dn.step h1 (step_new n2)) (rl1.new n2) (RDs.strs _) n3
      · exact h1.elim
    · exact h1.elim
  · exact h1.elim
def blsD : List D → Option (List Bool)
  | [] => some []
  | .bl x :: r => match blsD r with
    | some xs => some (x :: xs)
    | none => none
  | _ => none
theorem bls_ok : ∀ {xs : List V} {ds : List D} {bs : List Bool}, RDs K as H xs ds → blsD ds = some bs → xs = bs.map V.bl
  | _, [], ss, r, h => by cases r; cases h; rfl
  | _, d :: ds, ss, r, h => by
    cases r with
    | cons r rs =>
      unfold blsD at h
      split at h
      · rename_i e; cases e
      · rename_i x rr e
        cases e
        split at h
        · rename_i ys e2
          cases h
          have h1 := bls_ok rs e2
          cases r.bl_inv
          rw [h1]; rfl
        · cases h
      · cases h
def gAll (ds : List D) (s : S) : R D := match ds with
  | [d] => match (toL s d).bind blsD with
    | some bs => .ok (.bl (bs.all id)) s
    | none => .bad
  | _ => .bad
theorem c_all (hc : X.calm = true) : CB X (.builtin "all") gAll := cb_of fun pins sh σ H as s xs ds us Q I rl rs ru h => by
  unfold gAll at h
  split at h
  · obtain ⟨v, rfl, rv⟩ := rs.one
    split at h
    · rename_i bs e
      cases e2 : toL s _ with
      | none => rw [e2] at e; cases e
      | some ys =>
        rw [e2] at e
        obtain ⟨p, zs, rfl, hx, rz⟩ := toL_ok rl rv e2
        have ez := bls_ok rz (show blsD ys = some bs from e)
        subst ez
        exact call_allL hc pins sh σ H _ us Q I ru ⟨p, bs, rfl, SqL.of hx, Dn.now (Q := Q) h rl (.da (.bl _))⟩
    · exact h.elim
  · exact h.elim
def gZip (ds : List D) (s : S) : R Wk := match ds with
  | [.lst xs, .lst ys] => .ok ((xs.zip ys).map fun p => D.tup [p.1, p.2], none) s
  | _ => .bad
def fZip (f : FA) : FI := fun ρ s => (f ρ s).bind gZip
end
end PF
namespace PF
open PySem PySem.Spec
open L2
theorem u64 {A : Around} {k : Nat} (hr : Room k A) : A.units + 64 < cLine := by have := hr.un; omega
theorem u65 {A : Around} {k : Nat} (hr : Room k A) : A.units + 65 < cLine := by have := hr.un; omega
section
variable {X : Cx}
theorem tds_strs {as : As} {H : Hp} : ∀ ss : List Str, TDs as H (ss.map V.str) (ss.map PyData.str)
  | [] => .nil
  | s :: r => .cons (.str s) (tds_strs r)
theorem re_conS {x : Str} {vs : List V} {pos : Pos} (ss : List Str) (c : ConT X.K X.mg x vs) (e : vs = ss.map V.str := by rfl) (hg : Gl X x := by rfl) (hd : (x == ("__debug__" : Str)) = false := by decide) : RE X (.Name x pos) (fC (.con (ss.map PyData.str))) := by
  obtain ⟨a, hm, hs⟩ := c
  subst e
  exact re_glob (v := .ref a) (fun as H => .con hs (tds_strs ss)) hm rfl hg hd
end
section
variable {P : Program} {w : World} {K : PySem.W.Frag} {mg : Str → Option Value} {base : Heap} {x : Str} {st : Stmt} {N ps : List Str} {k n : Nat}
def badF : FF := fun _ _ => .bad
theorem cal_bad (h : Has K mg x st ps) (S : FnScope N ps (defScope st)) (hn : ps.length = n) : CalF P w K mg base x (k + 1) n badF := by
  refine ⟨h.cal S (fun vs H Q E h => by rw [hn]; exact h.1) fun f cdv A outer s H vs Q E hr h => ?_⟩
  obtain ⟨hv, as, ds, s', rl, rs, h⟩ := h
  exact h.elim
end
end PF
namespace PF
open PySem PySem.Spec
open L2
def R.Wk {α β : Type} (f : α → S → R β) (Q : β → S → Prop) (a : α) (s : S) : Prop := (f a s).W Q
theorem R.W_bindk {α β : Type} (r : R α) (f : α → S → R β) (Q : β → S → Prop) : (r.bind f).W Q = r.W (R.Wk f Q) := R.W_bind r f Q
@[simp] theorem R.Wk_app {α β : Type} (f : α → S → R β) (Q : β → S → Prop) (a : α) (s : S) : R.Wk f Q a s = (f a s).W Q := (rfl)
section
variable {s : S} {m : Bool} {n : Nat} {i j : Int} {x y : Str} {b : Bool} {xs ys : List PyData} {ds es : List D} {d e : D} {ρ : En} {Q : D → S → Prop}
theorem sizeLine_eq' : sizeLine = 16777216 := sizeLine_eq
@[simp] theorem gAdd_int : gAdd m (.int i) (.int j) s = .ok (.int (i + j)) s := (rfl)
@[simp] theorem gAdd_bool : gAdd m (.bl b) (.int j) s = .ok (.int (b01 b + j)) s := (rfl)
theorem gAdd_str (h : x.length + y.length ≤ 16777216) : gAdd m (.str x) (.str y) s = .ok (.str (x ++ y)) s := if_pos (by rw [sizeLine_eq']; exact h)
theorem gAdd_tup (h : xs.length + ys.length ≤ 16777216) : gAdd m (.tup xs) (.tup ys) s = .ok (.tup (xs ++ ys)) s := if_pos (by rw [sizeLine_eq']; exact h)
theorem gAdd_lst (h : xs.length + ys.length ≤ 16777216) : gAdd false (.lst xs) (.lst ys) s = .ok (.lst (xs ++ ys)) s := by
  show (if (xs.map D.da).length + (ys.map D.da).length ≤ sizeLine then newL false (xs.map D.da ++ ys.map D.da) s else .bad) = _
  rw [if_pos (by rw [sizeLine_eq', List.length_map, List.length_map]; exact h), ← List.map_append]
  show (match pures _ with | some xs => R.ok (D.lst xs) s | none => .bad) = _
  rw [pures_da]
@[simp] theorem gSub_int : PF.gSub (.int i) (.int j) s = .ok (.int (i - j)) s := (rfl)
@[simp] theorem gSub_bool : PF.gSub (.bl b) (.int j) s = .ok (.int (b01 b - j)) s := (rfl)
@[simp] theorem gSub_boolR : PF.gSub (.int i) (.bl b) s = .ok (.int (i - b01 b)) s := (rfl)
theorem gMul_int (h : (-(2 ^ 64) < i ∧ i < 2 ^ 64) ∨ (-(2 ^ 64) < j ∧ j < 2 ^ 64)) : gMul (.int i) (.int j) s = .ok (.int (i * j)) s := if_pos h
theorem gDiv_int (h : 0 < j) (h2 : j < 1073741824) : gDiv (.int i) (.int j) s = .ok (.int (i / j)) s := if_pos ⟨h, h2⟩
theorem gMod_int (h : 0 < j) : gMod (.int i) (.int j) s = .ok (.int (i % j)) s := if_pos h
theorem gPow_int (h : 0 ≤ j) (h1 : j ≤ 1000000) (h2 : i.natAbs < 2 ^ 64) : gPow (.int i) (.int j) s = .ok (.int (i ^ j.toNat)) s := if_pos ⟨h, h1, h2⟩
@[simp] theorem gLt_int : gLt (.int i) (.int j) s = .ok (.bl (decide (i < j))) s := (rfl)
@[simp] theorem gLt_str : gLt (.str x) (.str y) s = .ok (.bl (decide (x.cps.toList < y.cps.toList))) s := (rfl)
@[simp] theorem gLe_int : gLe (.int i) (.int j) s = .ok (.bl (decide (i ≤ j))) s := (rfl)
@[simp] theorem gGt_int : gGt (.int i) (.int j) s = .ok (.bl (decide (j < i))) s := (rfl)
@[simp] theorem gGe_int : gGe (.int i) (.int j) s = .ok (.bl (decide (j ≤ i))) s := (rfl)
@[simp] theorem gIs_non : gIs d .non s = .ok (.bl (isN d)) s := (rfl)
@[simp] theorem gIsNot_non : gIsNot d .non s = .ok (.bl (!isN d)) s := (rfl)
@[simp] theorem okD_int : okD (.int i) = true := (rfl)
@[simp] theorem okD_bool : okD (.bool b) = true := (rfl)
@[simp] theorem okD_none : okD .none = true := (rfl)
theorem beq_strs (x y : Str) : PyData.eqv (.str x) (.str y) = decide (x = y) := by
  show (x == y) = _
  (rw [Bool.eq_iff_iff, beq_iff_eq, decide_eq_true_eq])
theorem gEq_da {p q : PyData} (h1 : okD p = true) (h2 : okD q = true) : gEq (.da p) (.da q) s = .ok (.bl (PyData.eqv p q)) s := by
  have e : gEqD (.da p) (.da q) s = .ok (.bl (PyData.eqv p q)) s := if_pos ⟨h1, h2⟩
  cases p <;> cases q <;> first | exact e | (rw [beq_strs]; rfl)
theorem gEq_s : gEq (.str x) (.str y) s = .ok (.bl (decide (x = y))) s := (rfl)
theorem gNe_s : gNe (.str x) (.str y) s = .ok (.bl (!decide (x = y))) s := (rfl)
theorem gNe_da {p q : PyData} (h1 : okD p = true) (h2 : okD q = true) : gNe (.da p) (.da q) s = .ok (.bl (!PyData.eqv p q)) s := by
  have e : gNeD (.da p) (.da q) s = .ok (.bl (!PyData.eqv p q)) s := if_pos ⟨h1, h2⟩
  cases p <;> cases q <;> first | exact e | (rw [beq_strs]; rfl)
theorem gIx_ref {k : Nat} (h : s[n]? = some (.lst ds)) (h2 : ds[k]? = some d) : gIx (.ref n) (.int (k : Int)) s = .ok d s := by
  show (match (match s[n]? with | some (O.lst ds) => some ds | _ => none) with | some ds => (match atI ds (k : Int) with | some d => R.ok d s | none => .bad) | none => .bad) = _
  rw [h]
  show (match atI ds (k : Int) with | some d => R.ok d s | none => .bad) = _
  rw [atI_nat h2]
theorem gIx_tup {k : Nat} {p : PyData} (h2 : xs[k]? = some p) : gIx (.tup xs) (.int (k : Int)) s = .ok (.da p) s := by
  show (match atI (xs.map D.da) (k : Int) with | some d => R.ok d s | none => .bad) = _
  rw [atI_nat (v := D.da p) (by rw [List.getElem?_map, h2]; rfl)]
theorem gIx_lst {k : Nat} {p : PyData} (h2 : xs[k]? = some p) : gIx (.lst xs) (.int (k : Int)) s = .ok (.da p) s := by
  show (match atI (xs.map D.da) (k : Int) with | some d => R.ok d s | none => .bad) = _
  rw [atI_nat (v := D.da p) (by rw [List.getElem?_map, h2]; rfl)]
theorem gSet_ref {k : Nat} (h : s[n]? = some (.lst ds)) (h2 : k < ds.length) : gSet (.ref n) (.int (k : Int)) d s = .ok .non (s.set n (.lst (ds.set k d))) := by
  show (match s[n]? with | some (O.lst xs) => (match ixN xs.length (k : Int) with | some j => R.ok D.non (s.set n (.lst (xs.set j d))) | none => .bad) | _ => .bad) = _
  rw [h]
  have : ixN ds.length (k : Int) = some k := by
    unfold ixN
    rw [if_pos (by omega), if_pos (by omega)]
    rfl
  show (match ixN ds.length (k : Int) with | some j => R.ok D.non (s.set n (.lst (ds.set j d))) | none => .bad) = _
  rw [this]
def kOp1 (g : D → D → S → R D) (fb : FE) (ρ : En) (x : D) (s : S) : R D := (fb ρ s).bind fun y s2 => g x y s2
def kOp2 (g : D → D → S → R D) (x y : D) (s : S) : R D := g x y s
@[simp] theorem e_op {g : D → D → S → R D} {fa fb : FE} : fOp g fa fb ρ s = (fa ρ s).bind (kOp1 g fb ρ) := (rfl)
@[simp] theorem e_op1 {g : D → D → S → R D} {fb : FE} : kOp1 g fb ρ d s = (fb ρ s).bind (kOp2 g d) := (rfl)
@[simp] theorem e_op2 {g : D → D → S → R D} : kOp2 g d e s = g d e s := (rfl)
@[simp] theorem e_c : fC d ρ s = .ok d s := (rfl)
@[simp] theorem e_var0 {r : En} : fVar 0 (some d :: r) s = .ok d s := (rfl)
@[simp] theorem e_var1 {r : En} {x0 : Option D} : fVar 1 (x0 :: some d :: r) s = .ok d s := (rfl)
@[simp] theorem e_var2 {r : En} {x0 x1 : Option D} : fVar 2 (x0 :: x1 :: some d :: r) s = .ok d s := (rfl)
@[simp] theorem e_var3 {r : En} {x0 x1 x2 : Option D} : fVar 3 (x0 :: x1 :: x2 :: some d :: r) s = .ok d s := (rfl)
@[simp] theorem e_var4 {r : En} {x0 x1 x2 x3 : Option D} : fVar 4 (x0 :: x1 :: x2 :: x3 :: some d :: r) s = .ok d s := (rfl)
@[simp] theorem e_var5 {r : En} {x0 x1 x2 x3 x4 : Option D} : fVar 5 (x0 :: x1 :: x2 :: x3 :: x4 :: some d :: r) s = .ok d s := (rfl)
@[simp] theorem e_var6 {r : En} {x0 x1 x2 x3 x4 x5 : Option D} : fVar 6 (x0 :: x1 :: x2 :: x3 :: x4 :: x5 :: some d :: r) s = .ok d s := (rfl)
@[simp] theorem e_var7 {r : En} {x0 x1 x2 x3 x4 x5 x6 : Option D} : fVar 7 (x0 :: x1 :: x2 :: x3 :: x4 :: x5 :: x6 :: some d :: r) s = .ok d s := (rfl)
@[simp] theorem e_var8 {r : En} {x0 x1 x2 x3 x4 x5 x6 x7 : Option D} : fVar 8 (x0 :: x1 :: x2 :: x3 :: x4 :: x5 :: x6 :: x7 :: some d :: r) s = .ok d s := (rfl)
@[simp] theorem e_var9 {r : En} {x0 x1 x2 x3 x4 x5 x6 x7 x8 : Option D} : fVar 9 (x0 :: x1 :: x2 :: x3 :: x4 :: x5 :: x6 :: x7 :: x8 :: some d :: r) s = .ok d s := (rfl)
@[simp] theorem e_var10 {r : En} {x0 x1 x2 x3 x4 x5 x6 x7 x8 x9 : Option D} : fVar 10 (x0 :: x1 :: x2 :: x3 :: x4 :: x5 :: x6 :: x7 :: x8 :: x9 :: some d :: r) s = .ok d s := (rfl)
@[simp] theorem e_var11 {r : En} {x0 x1 x2 x3 x4 x5 x6 x7 x8 x9 x10 : Option D} : fVar 11 (x0 :: x1 :: x2 :: x3 :: x4 :: x5 :: x6 :: x7 :: x8 :: x9 :: x10 :: some d :: r) s = .ok d s := (rfl)
@[simp] theorem e_var12 {r : En} {x0 x1 x2 x3 x4 x5 x6 x7 x8 x9 x10 x11 : Option D} : fVar 12 (x0 :: x1 :: x2 :: x3 :: x4 :: x5 :: x6 :: x7 :: x8 :: x9 :: x10 :: x11 :: some d :: r) s = .ok d s := (rfl)
def kSeq (g : FS) (fl : Fl) (s : S) : R Fl := match fl with
  | .nx ρ1 => g ρ1 s
  | fl => .ok fl s
@[simp] theorem e_seq {f g : FS} : fSeq f g ρ s = (f ρ s).bind (kSeq g) := (rfl)
@[simp] theorem e_seqn {g : FS} : kSeq g (.nx ρ) s = g ρ s := (rfl)
@[simp] theorem e_seqr {g : FS} : kSeq g (.rt d) s = .ok (.rt d) s := (rfl)
@[simp] theorem e_seqb {g : FS} : kSeq g (.bk ρ) s = .ok (.bk ρ) s := (rfl)
@[simp] theorem e_seqc {g : FS} : kSeq g (.ct ρ) s = .ok (.ct ρ) s := (rfl)
def kRet (d : D) (s : S) : R Fl := .ok (.rt d) s
@[simp] theorem e_ret {f : FE} : fRet f ρ s = (f ρ s).bind kRet := (rfl)
@[simp] theorem e_ret1 : kRet d s = .ok (.rt d) s := (rfl)
@[simp] theorem e_retN : fRetN ρ s = .ok (.rt .non) s := (rfl)
@[simp] theorem e_next : fNext ρ s = .ok (.nx ρ) s := (rfl)
@[simp] theorem e_brk : fBrk ρ s = .ok (.bk ρ) s := (rfl)
@[simp] theorem e_cnt : fCnt ρ s = .ok (.ct ρ) s := (rfl)
def kDrop (ρ : En) (_ : D) (s : S) : R Fl := .ok (.nx ρ) s
@[simp] theorem e_drop {f : FE} : fDrop f ρ s = (f ρ s).bind (kDrop ρ) := (rfl)
@[simp] theorem e_drop1 : kDrop ρ d s = .ok (.nx ρ) s := (rfl)
def kSet (i : Nat) (ρ : En) (d : D) (s : S) : R Fl := .ok (.nx (ρ.set i (some d))) s
@[simp] theorem e_set {i : Nat} {f : FE} : fSet i f ρ s = (f ρ s).bind (kSet i ρ) := (rfl)
@[simp] theorem e_set1 {i : Nat} : kSet i ρ d s = .ok (.nx (ρ.set i (some d))) s := (rfl)
def kIfS (f g : FS) (ρ : En) (k : Bool) (s : S) : R Fl := if k = true then f ρ s else g ρ s
@[simp] theorem e_ifS {c : FT} {f g : FS} : fIfS c f g ρ s = (c ρ s).bind (kIfS f g ρ) := (rfl)
@[simp] theorem e_ifT {f g : FS} : kIfS f g ρ true s = f ρ s := (rfl)
@[simp] theorem e_ifF {f g : FS} : kIfS f g ρ false s = g ρ s := (rfl)
def kIf (f g : FE) (ρ : En) (k : Bool) (s : S) : R D := if k = true then f ρ s else g ρ s
@[simp] theorem e_if {c : FT} {f g : FE} : fIf c f g ρ s = (c ρ s).bind (kIf f g ρ) := (rfl)
@[simp] theorem e_ifET {f g : FE} : kIf f g ρ true s = f ρ s := (rfl)
@[simp] theorem e_ifEF {f g : FE} : kIf f g ρ false s = g ρ s := (rfl)
def kTest (d : D) (s : S) : R Bool := match d with
  | .bl k => .ok k s
  | _ => .bad
@[simp] theorem e_test {f : FE} : fTest f ρ s = (f ρ s).bind kTest := (rfl)
@[simp] theorem e_test1 : kTest (.bl b) s = .ok b s := (rfl)
def kAndT (g : FT) (ρ : En) (c : Bool) (s : S) : R Bool := if c = true then g ρ s else .ok false s
def kOrT (g : FT) (ρ : En) (c : Bool) (s : S) : R Bool := if c = true then .ok true s else g ρ s
def kNotT (c : Bool) (s : S) : R Bool := .ok (!c) s
@[simp] theorem e_andT {f g : FT} : fAndT f g ρ s = (f ρ s).bind (kAndT g ρ) := (rfl)
@[simp] theorem e_orT {f g : FT} : fOrT f g ρ s = (f ρ s).bind (kOrT g ρ) := (rfl)
@[simp] theorem e_notT {f : FT} : fNotT f ρ s = (f ρ s).bind kNotT := (rfl)
@[simp] theorem e_andT1 {g : FT} : kAndT g ρ true s = g ρ s := (rfl)
@[simp] theorem e_andT0 {g : FT} : kAndT g ρ false s = .ok false s := (rfl)
@[simp] theorem e_orT1 {g : FT} : kOrT g ρ true s = .ok true s := (rfl)
@[simp] theorem e_orT0 {g : FT} : kOrT g ρ false s = g ρ s := (rfl)
@[simp] theorem e_notT1 : kNotT b s = .ok (!b) s := (rfl)
def kAnd (g : FE) (ρ : En) (d : D) (s : S) : R D := match d with
  | .bl true => g ρ s
  | .bl false => .ok (.bl false) s
  | _ => .bad
def kOr (g : FE) (ρ : En) (d : D) (s : S) : R D := match d with
  | .bl false => g ρ s
  | .bl true => .ok (.bl true) s
  | _ => .bad
def kNot (d : D) (s : S) : R D := match d with
  | .bl k => .ok (.bl (!k)) s
  | _ => .bad
@[simp] theorem e_and {f g : FE} : fAnd f g ρ s = (f ρ s).bind (kAnd g ρ) := (rfl)
@[simp] theorem e_or {f g : FE} : fOr f g ρ s = (f ρ s).bind (kOr g ρ) := (rfl)
@[simp] theorem e_not {f : FE} : fNot f ρ s = (f ρ s).bind kNot := (rfl)
@[simp] theorem e_and1 {g : FE} : kAnd g ρ (.bl true) s = g ρ s := (rfl)
@[simp] theorem e_and0 {g : FE} : kAnd g ρ (.bl false) s = .ok (.bl false) s := (rfl)
@[simp] theorem e_or1 {g : FE} : kOr g ρ (.bl true) s = .ok (.bl true) s := (rfl)
@[simp] theorem e_or0 {g : FE} : kOr g ρ (.bl false) s = g ρ s := (rfl)
@[simp] theorem e_not1 : kNot (.bl b) s = .ok (.bl (!b)) s := (rfl)
def kChain1 (g g' : D → D → S → R D) (fb fc : FE) (ρ : En) (x : D) (s : S) : R D := (fb ρ s).bind fun y s2 => (g x y s2).bind fun z s3 => match z with
  | .bl true => (fc ρ s3).bind fun w s4 => g' y w s4
  | .bl false => .ok (.bl false) s3
  | _ => .bad
def kChain2 (g g' : D → D → S → R D) (fc : FE) (ρ : En) (x y : D) (s : S) : R D := (g x y s).bind fun z s3 => match z with
  | .bl true => (fc ρ s3).bind fun w s4 => g' y w s4
  | .bl false => .ok (.bl false) s3
  | _ => .bad
def kChain3 (g' : D → D → S → R D) (fc : FE) (ρ : En) (y z : D) (s : S) : R D := match z with
  | .bl true => (fc ρ s).bind fun w s4 => g' y w s4
  | .bl false => .ok (.bl false) s
  | _ => .bad
@[simp] theorem e_chain {g g' : D → D → S → R D} {fa fb fc : FE} : fChain g g' fa fb fc ρ s = (fa ρ s).bind (kChain1 g g' fb fc ρ) := (rfl)
@[simp] theorem e_chain1 {g g' : D → D → S → R D} {fb fc : FE} : kChain1 g g' fb fc ρ d s = (fb ρ s).bind (kChain2 g g' fc ρ d) := (rfl)
@[simp] theorem e_chain2 {g g' : D → D → S → R D} {fc : FE} : kChain2 g g' fc ρ d e s = (g d e s).bind (kChain3 g' fc ρ e) := (rfl)
@[simp] theorem e_chain3 {g' : D → D → S → R D} {fc : FE} : kChain3 g' fc ρ e (.bl true) s = (fc ρ s).bind (kOp2 g' e) := (rfl)
@[simp] theorem e_chain0 {g' : D → D → S → R D} {fc : FE} : kChain3 g' fc ρ e (.bl false) s = .ok (.bl false) s := (rfl)
def kCons1 (g : FA) (ρ : En) (x : D) (s : S) : R (List D) := (g ρ s).bind fun xs s2 => .ok (x :: xs) s2
def kCons2 (x : D) (xs : List D) (s : S) : R (List D) := .ok (x :: xs) s
@[simp] theorem e_nil : fNil ρ s = .ok [] s := (rfl)
@[simp] theorem e_vs : fVs ds ρ s = .ok ds s := (rfl)
@[simp] theorem e_cons {f : FE} {g : FA} : fCons f g ρ s = (f ρ s).bind (kCons1 g ρ) := (rfl)
@[simp] theorem e_cons1 {g : FA} : kCons1 g ρ d s = (g ρ s).bind (kCons2 d) := (rfl)
@[simp] theorem e_cons2 : kCons2 d ds s = .ok (d :: ds) s := (rfl)
def kTup (ds : List D) (s : S) : R D := if ds.length ≤ sizeLine then newT ds s else .bad
def kLst (m : Bool) (ds : List D) (s : S) : R D := if ds.length ≤ sizeLine then newL m ds s else .bad
@[simp] theorem e_tup {f : FA} : fTup f ρ s = (f ρ s).bind kTup := (rfl)
@[simp] theorem e_lst {f : FA} : fLst m f ρ s = (f ρ s).bind (kLst m) := (rfl)
theorem kTup_ok (h : pures ds = some xs) (hl : ds.length ≤ 16777216) : kTup ds s = .ok (.tup xs) s := by
  unfold kTup newT
  rw [if_pos (by rw [sizeLine_eq']; exact hl), h]
theorem kLst_ok (h : pures ds = some xs) (hl : ds.length ≤ 16777216) : kLst false ds s = .ok (.lst xs) s := by
  unfold kLst newL
  rw [if_pos (by rw [sizeLine_eq']; exact hl), if_neg Bool.false_ne_true, h]
@[simp] theorem tup0 : kTup [] s = .ok (.tup []) s := (rfl)
@[simp] theorem lst0 : kLst false [] s = .ok (.lst []) s := (rfl)
@[simp] theorem lst0n : kLst true [] s = .ok (.ref s.length) (s ++ [.lst []]) := (rfl)
@[simp] theorem tup1 {a : PyData} : kTup [.da a] s = .ok (.tup [a]) s := (rfl)
@[simp] theorem tup2 {a b : PyData} : kTup [.da a, .da b] s = .ok (.tup [a, b]) s := (rfl)
@[simp] theorem tup3 {a b c : PyData} : kTup [.da a, .da b, .da c] s = .ok (.tup [a, b, c]) s := (rfl)
@[simp] theorem tup4 {a b c d : PyData} : kTup [.da a, .da b, .da c, .da d] s = .ok (.tup [a, b, c, d]) s := (rfl)
@[simp] theorem lst1 {a : PyData} : kLst false [.da a] s = .ok (.lst [a]) s := (rfl)
@[simp] theorem lst2 {a b : PyData} : kLst false [.da a, .da b] s = .ok (.lst [a, b]) s := (rfl)
@[simp] theorem lst3 {a b c : PyData} : kLst false [.da a, .da b, .da c] s = .ok (.lst [a, b, c]) s := (rfl)
@[simp] theorem lst4 {a b c d : PyData} : kLst false [.da a, .da b, .da c, .da d] s = .ok (.lst [a, b, c, d]) s := (rfl)
def kSl1 (m : Bool) (lo hi : FO) (ρ : En) (d : D) (s : S) : R D := (lo ρ s).bind fun l s2 => (hi ρ s2).bind fun u s3 => gSl m d l u s3
def kSl2 (m : Bool) (hi : FO) (ρ : En) (d : D) (l : Option Int) (s : S) : R D := (hi ρ s).bind fun u s3 => gSl m d l u s3
def kSl3 (m : Bool) (d : D) (l u : Option Int) (s : S) : R D := gSl m d l u s
@[simp] theorem e_sl {f : FE} {lo hi : FO} : fSl m f lo hi ρ s = (f ρ s).bind (kSl1 m lo hi ρ) := (rfl)
@[simp] theorem e_sl1 {lo hi : FO} : kSl1 m lo hi ρ d s = (lo ρ s).bind (kSl2 m hi ρ d) := (rfl)
@[simp] theorem e_sl2 {hi : FO} {l : Option Int} : kSl2 m hi ρ d l s = (hi ρ s).bind (kSl3 m d l) := (rfl)
@[simp] theorem e_sl3 {l u : Option Int} : kSl3 m d l u s = gSl m d l u s := (rfl)
@[simp] theorem e_no : fNo ρ s = .ok none s := (rfl)
def kSome (d : D) (s : S) : R (Option Int) := match d with
  | .int i => .ok (some i) s
  | _ => .bad
@[simp] theorem e_some {f : FE} : fSome f ρ s = (f ρ s).bind kSome := (rfl)
@[simp] theorem e_some1 : kSome (.int i) s = .ok (some i) s := (rfl)
def kRev1 (fs : FE) (ρ : En) (d : D) (s : S) : R D := (fs ρ s).bind fun k s2 => match d, k with
  | .tup ds, .int (-1) => .ok (.tup ds.reverse) s2
  | _, _ => .bad
def kRev2 (d k : D) (s : S) : R D := match d, k with
  | .tup ds, .int (-1) => .ok (.tup ds.reverse) s
  | _, _ => .bad
@[simp] theorem e_rev {f g : FE} : fRev f g ρ s = (f ρ s).bind (kRev1 g ρ) := (rfl)
@[simp] theorem e_rev1 {g : FE} : kRev1 g ρ d s = (g ρ s).bind (kRev2 d) := (rfl)
@[simp] theorem e_rev2 : kRev2 (.tup xs) (.int (-1)) s = .ok (.tup xs.reverse) s := (rfl)
def kNeg (d : D) (s : S) : R D := match d with
  | .int i => .ok (.int (-i)) s
  | _ => .bad
@[simp] theorem e_neg {f : FE} : fNeg f ρ s = (f ρ s).bind kNeg := (rfl)
@[simp] theorem e_neg1 : kNeg (.int i) s = .ok (.int (-i)) s := (rfl)
@[simp] theorem e_tru {f : FE} : fTru f ρ s = (f ρ s).bind gTru := (rfl)
@[simp] theorem tru_bl : gTru (.bl b) s = .ok b s := (rfl)
@[simp] theorem tru_tup : gTru (.tup xs) s = .ok (!xs.isEmpty) s := by show R.ok (!(xs.map D.da).isEmpty) s = _; cases xs <;> rfl
@[simp] theorem tru_lst : gTru (.lst xs) s = .ok (!xs.isEmpty) s := by show R.ok (!(xs.map D.da).isEmpty) s = _; cases xs <;> rfl
@[simp] theorem e_cb {g : FF} {f : FA} : fCB g f ρ s = (f ρ s).bind g := (rfl)
def kCall (n : Nat) (F : FF) (ds : List D) (s : S) : R D := if ds.length = n then F ds s else .bad
@[simp] theorem e_call {n : Nat} {F : FF} {f : FA} : fCall n F f ρ s = (f ρ s).bind (kCall n F) := (rfl)
@[simp] theorem e_call1 {F : FF} : kCall 1 F [d] s = F [d] s := (rfl)
@[simp] theorem e_call2 {F : FF} : kCall 2 F [d, e] s = F [d, e] s := (rfl)
@[simp] theorem e_call3 {F : FF} {d3 : D} : kCall 3 F [d, e, d3] s = F [d, e, d3] s := (rfl)
@[simp] theorem e_call4 {F : FF} {d3 d4 : D} : kCall 4 F [d, e, d3, d4] s = F [d, e, d3, d4] s := (rfl)
@[simp] theorem e_call5 {F : FF} {d3 d4 d5 : D} : kCall 5 F [d, e, d3, d4, d5] s = F [d, e, d3, d4, d5] s := (rfl)
@[simp] theorem len_tup : gLen [.tup xs] s = .ok (.int xs.length) s := by show R.ok (D.int (xs.map D.da).length) s = _; rw [List.length_map]
@[simp] theorem len_lst : gLen [.lst xs] s = .ok (.int xs.length) s := by show R.ok (D.int (xs.map D.da).length) s = _; rw [List.length_map]
theorem len_str (h : x.length ≤ 16777216) : gLen [.str x] s = .ok (.int x.length) s := if_pos (by rw [sizeLine_eq']; exact h)
theorem len_ref (h : s[n]? = some (.lst ds)) : gLen [.ref n] s = .ok (.int ds.length) s := by
  show (match (match s[n]? with | some (O.lst ds) => some ds | _ => none) with | some xs => R.ok (D.int xs.length) s | none => .bad) = _
  rw [h]
@[simp] theorem min_int : gMin [.int i, .int j] s = .ok (.int (if j < i then j else i)) s := (rfl)
@[simp] theorem list_tup : gList false [.tup xs] s = .ok (.lst xs) s := by
  show (match pures (xs.map D.da) with | some xs => R.ok (D.lst xs) s | none => .bad) = _
  rw [pures_da]
@[simp] theorem list_lst : gList false [.lst xs] s = .ok (.lst xs) s := by
  show (match pures (xs.map D.da) with | some xs => R.ok (D.lst xs) s | none => .bad) = _
  rw [pures_da]
@[simp] theorem list_tupN : gList true [.tup xs] s = .ok (.ref s.length) (s ++ [.lst (xs.map D.da)]) := (rfl)
@[simp] theorem list_lstN : gList true [.lst xs] s = .ok (.ref s.length) (s ++ [.lst (xs.map D.da)]) := (rfl)
@[simp] theorem tuple_tup : gTuple [.tup xs] s = .ok (.tup xs) s := (rfl)
@[simp] theorem tuple_lst : gTuple [.lst xs] s = .ok (.tup xs) s := by
  show (match pures (xs.map D.da) with | some xs => R.ok (D.tup xs) s | none => .bad) = _
  rw [pures_da]
@[simp] theorem isi_tup {p : PyData} : gIsi [.da p, .ty "tuple"] s = .ok (.bl (isiD p "tuple")) s := (rfl)
@[simp] theorem isi_int {p : PyData} : gIsi [.da p, .ty "int"] s = .ok (.bl (isiD p "int")) s := (rfl)
@[simp] theorem isi_bool {p : PyData} : gIsi [.da p, .ty "bool"] s = .ok (.bl (isiD p "bool")) s := (rfl)
@[simp] theorem isi_str {p : PyData} : gIsi [.da p, .ty "str"] s = .ok (.bl (isiD p "str")) s := (rfl)
@[simp] theorem isi_list {p : PyData} : gIsi [.da p, .ty "list"] s = .ok (.bl (isiD p "list")) s := (rfl)
theorem repr_da {p : PyData} (h : okS p = true) : gRepr [.da p] s = .ok (.str p.shown) s := if_pos h
@[simp] theorem sl_tup {lo hi : Option Int} : gSl m (.tup xs) lo hi s = .ok (.tup (cutL xs lo hi)) s := (rfl)
theorem cutL_map {α β : Type} (f : α → β) (l : List α) (lo hi : Option Int) : cutL (l.map f) lo hi = (cutL l lo hi).map f := by
  unfold cutL
  rw [List.length_map, List.map_take, List.map_drop]
@[simp] theorem sl_lst {lo hi : Option Int} : gSl false (.lst xs) lo hi s = .ok (.lst (cutL xs lo hi)) s := by
  show (match pures (cutL (xs.map D.da) lo hi) with | some xs => R.ok (D.lst xs) s | none => .bad) = _
  rw [cutL_map, pures_da]
@[simp] theorem sl_frz {lo hi : Option Int} : gSl false (.frz xs) lo hi s = .ok (.lst (cutL xs lo hi)) s := by
  show (match pures (cutL (xs.map D.da) lo hi) with | some xs => R.ok (D.lst xs) s | none => .bad) = _
  rw [cutL_map, pures_da]
theorem sl_str' {lo hi : Option Int} (h : x.length ≤ 16777216) : gSl m (.str x) lo hi s = .ok (.str (cutS x lo hi)) s := if_pos (by rw [sizeLine_eq']; exact h)
def kBody (fl : Fl) (s : S) : R D := match fl with
  | .rt d => .ok d s
  | .nx _ => .ok .non s
  | _ => .bad
@[simp] theorem e_bodyr : kBody (.rt d) s = .ok d s := (rfl)
@[simp] theorem e_bodyn : kBody (.nx ρ) s = .ok .non s := (rfl)
def kSetIt1 (fo fi : FE) (ρ : En) (v : D) (s : S) : R Fl := (fo ρ s).bind fun o s2 => (fi ρ s2).bind fun i s3 => (gSet o i v s3).bind fun _ s4 => .ok (.nx ρ) s4
def kSetIt2 (fi : FE) (ρ : En) (v o : D) (s : S) : R Fl := (fi ρ s).bind fun i s3 => (gSet o i v s3).bind fun _ s4 => .ok (.nx ρ) s4
def kSetIt3 (ρ : En) (v o i : D) (s : S) : R Fl := (gSet o i v s).bind fun _ s4 => .ok (.nx ρ) s4
@[simp] theorem e_setIt {fv fo fi : FE} : fSetIt fv fo fi ρ s = (fv ρ s).bind (kSetIt1 fo fi ρ) := (rfl)
@[simp] theorem e_setIt1 {fo fi : FE} : kSetIt1 fo fi ρ d s = (fo ρ s).bind (kSetIt2 fi ρ d) := (rfl)
@[simp] theorem e_setIt2 {fi : FE} : kSetIt2 fi ρ d e s = (fi ρ s).bind (kSetIt3 ρ d e) := (rfl)
@[simp] theorem e_setIt3 {o : D} : kSetIt3 ρ d e o s = (gSet e o d s).bind (kDrop ρ) := (rfl)
def kMt1 (g : GM) (fa : FA) (ρ : En) (d : D) (s : S) : R D := if (toL s d).isSome = true then (fa ρ s).bind fun ds s2 => g d ds s2 else .bad
def kMt2 (g : GM) (d : D) (ds : List D) (s : S) : R D := g d ds s
@[simp] theorem e_mt {g : GM} {fo : FE} {fa : FA} : fMt g fo fa ρ s = (fo ρ s).bind (kMt1 g fa ρ) := (rfl)
theorem e_mt1 {g : GM} {fa : FA} (h : s[n]? = some (.lst ds)) : kMt1 g fa ρ (.ref n) s = (fa ρ s).bind (kMt2 g (.ref n)) := by
  unfold kMt1
  rw [if_pos]
  · rfl
  · show ((match s[n]? with | some (O.lst ds) => some ds | _ => none) : Option (List D)).isSome = true
    rw [h]; rfl
@[simp] theorem e_mt2 {g : GM} : kMt2 g d ds s = g d ds s := (rfl)
theorem append_ok (h : s[n]? = some (.lst ds)) (hl : ds.length < 16777216) : gAppend (.ref n) [d] s = .ok .non (s.set n (.lst (ds ++ [d]))) := by
  show (match s[n]? with | some (O.lst xs) => (if xs.length < sizeLine then R.ok D.non (s.set n (.lst (xs ++ [d]))) else .bad) | _ => .bad) = _
  rw [h]
  show (if ds.length < sizeLine then _ else _) = _
  rw [if_pos (by rw [sizeLine_eq']; exact hl)]
theorem extend_tup (h : s[n]? = some (.lst ds)) (hl : ds.length + xs.length ≤ 16777216) : gExtend (.ref n) [.tup xs] s = .ok .non (s.set n (.lst (ds ++ xs.map D.da))) := by
  show (match s[n]? with | some (O.lst ys) => (if ys.length + xs.length ≤ sizeLine then R.ok D.non (s.set n (.lst (ys ++ xs.map D.da))) else .bad) | _ => .bad) = _
  rw [h]
  exact if_pos (by rw [sizeLine_eq']; exact hl)
theorem extend_lst (h : s[n]? = some (.lst ds)) (hl : ds.length + xs.length ≤ 16777216) : gExtend (.ref n) [.lst xs] s = .ok .non (s.set n (.lst (ds ++ xs.map D.da))) := by
  show (match s[n]? with | some (O.lst ys) => (if ys.length + (xs.map D.da).length ≤ sizeLine then R.ok D.non (s.set n (.lst (ys ++ xs.map D.da))) else .bad) | _ => .bad) = _
  rw [h]
  exact if_pos (by rw [sizeLine_eq', List.length_map]; exact hl)
theorem popAt_ok {k : Nat} (h : s[n]? = some (.lst ds)) (hk : ds[k]? = some d) (hl : ds.length ≤ 16777216) : gPopAt (.ref n) [.int (k : Int)] s = .ok d (s.set n (.lst (ds.eraseIdx k))) := by
  have hlt : k < ds.length := (List.getElem?_eq_some_iff.mp hk).1
  have e1 : seqIndex? (k : Int) ds.length = some k := by
    rw [PySem.StrLaws.seqIndex_nonneg (by omega) (by omega), Int.toNat_natCast]
  have b1 : -(2 ^ 63) ≤ (k : Int) ∧ (k : Int) < 2 ^ 63 := by omega
  unfold gPopAt onL
  simp only [h, e1, hk, b1, and_self, if_true]
def kFrz (d : D) (s : S) : R D := gFrz d s
@[simp] theorem e_frz {f : FE} : fFrz f ρ s = (f ρ s).bind kFrz := (rfl)
theorem frz_ref (h : s[n]? = some (.lst ds)) (h2 : pures ds = some xs) : kFrz (.ref n) s = .ok (.lst xs) (s.set n .gone) := by
  show (match s[n]? with | some (O.lst ds) => (match pures ds with | some xs => R.ok (D.lst xs) (s.set n .gone) | none => .bad) | _ => .bad) = _
  rw [h]
  show (match pures ds with | some xs => R.ok (D.lst xs) (s.set n .gone) | none => .bad) = _
  rw [h2]
@[simp] theorem frz_da {p : PyData} : kFrz (.da p) s = .ok (.da p) s := (rfl)
def kAsg (g : Tg) (ρ : En) (d : D) (s : S) : R Fl := match setD g d ρ with
  | some ρ1 => .ok (.nx ρ1) s
  | none => .bad
@[simp] theorem e_asg {g : Tg} {f : FE} : fAsg g f ρ s = (f ρ s).bind (kAsg g ρ) := (rfl)
noncomputable def kFor (g : Tg) (fb : FS) (ρ : En) (p : Wk) (s : S) : R Fl := chk p s (loopF g fb p p.1 ρ s)
@[simp] theorem e_for {fi : FI} {g : Tg} {fb : FS} : fFor fi g fb ρ s = (fi ρ s).bind (kFor g fb ρ) := (rfl)
@[simp] theorem e_for1 {g : Tg} {fb : FS} : kFor g fb ρ (ds, none) s = loopF g fb (ds, none) ds ρ s := chk_none
@[simp] theorem e_it {f : FE} : fIt f ρ s = (f ρ s).bind gIter := (rfl)
@[simp] theorem it_lst : gIter (.lst xs) s = .ok (xs.map D.da, none) s := (rfl)
@[simp] theorem it_tup : gIter (.tup xs) s = .ok (xs.map D.da, none) s := (rfl)
@[simp] theorem it_con : gIter (.con xs) s = .ok (xs.map D.da, none) s := (rfl)
@[simp] theorem e_rng {f : FA} : fRng f ρ s = (f ρ s).bind gRng := (rfl)
theorem rng_ok (h : -(2 ^ 62) ≤ j) (h2 : j < 2 ^ 62) : gRng [.int j] s = .ok (rngD 0 j.toNat, none) s := if_pos ⟨h, h2⟩
@[simp] theorem e_zip {f : FA} : fZip f ρ s = (f ρ s).bind gZip := (rfl)
@[simp] theorem zip_lst : gZip [.lst xs, .lst ys] s = .ok ((xs.zip ys).map fun p => D.tup [p.1, p.2], none) s := (rfl)
@[simp] theorem loop_nil {g : Tg} {fb : FS} {p : Wk} : loopF g fb p [] ρ s = .ok (.nx ρ) s := (rfl)
noncomputable def kLoop (g : Tg) (fb : FS) (p : Wk) (r : List D) (fl : Fl) (s : S) : R Fl := match fl with
  | .nx ρ2 => chk p s (loopF g fb p r ρ2 s)
  | .ct ρ2 => chk p s (loopF g fb p r ρ2 s)
  | .bk ρ2 => .ok (.nx ρ2) s
  | .rt d => .ok (.rt d) s
theorem loop_cons {g : Tg} {fb : FS} {p : Wk} {r : List D} {ρ1 : En} (h : setD g d ρ = some ρ1) : loopF g fb p (d :: r) ρ s = (fb ρ1 s).bind (kLoop g fb p r) := by
  rw [loopF, h]; rfl
@[simp] theorem loop_nx {g : Tg} {fb : FS} {r : List D} : kLoop g fb (ds, none) r (.nx ρ) s = loopF g fb (ds, none) r ρ s := chk_none
@[simp] theorem loop_ct {g : Tg} {fb : FS} {r : List D} : kLoop g fb (ds, none) r (.ct ρ) s = loopF g fb (ds, none) r ρ s := chk_none
@[simp] theorem loop_bk {g : Tg} {fb : FS} {p : Wk} {r : List D} : kLoop g fb p r (.bk ρ) s = .ok (.nx ρ) s := (rfl)
@[simp] theorem loop_rt {g : Tg} {fb : FS} {p : Wk} {r : List D} : kLoop g fb p r (.rt d) s = .ok (.rt d) s := (rfl)
noncomputable def kLc (m : Bool) (js : List Nat) (k : Nat) (g : Tg) (ft : FT) (fe : FE) (ρ : En) (p : Wk) (s : S) : R D := if p.1.length ≤ sizeLine then chk p s ((compF g ft fe (List.replicate k none ++ capD ρ js) p p.1 s).bind fun ds s2 => newL m ds s2) else .bad
@[simp] theorem e_lc {js : List Nat} {k : Nat} {fi : FI} {g : Tg} {ft : FT} {fe : FE} : fLc m js k fi g ft fe ρ s = (fi ρ s).bind (kLc m js k g ft fe ρ) := (rfl)
def kNewL (m : Bool) (ds : List D) (s : S) : R D := newL m ds s
theorem e_lc1 {js : List Nat} {k : Nat} {g : Tg} {ft : FT} {fe : FE} {ρ0 : En} (h : ds.length ≤ 16777216) (e : List.replicate k none ++ capD ρ js = ρ0) : kLc m js k g ft fe ρ (ds, none) s = (compF g ft fe ρ0 (ds, none) ds s).bind (kNewL m) := by
  subst e
  unfold kLc
  rw [if_pos (by rw [sizeLine_eq']; exact h), chk_none]; rfl
@[simp] theorem e_newF : kNewL false (xs.map D.da) s = .ok (.lst xs) s := by
  show (match pures _ with | some xs => R.ok (D.lst xs) s | none => .bad) = _
  rw [pures_da]
@[simp] theorem e_newT : kNewL true ds s = .ok (.ref s.length) (s ++ [.lst ds]) := (rfl)
@[simp] theorem comp_nil {g : Tg} {ft : FT} {fe : FE} {p : Wk} : compF g ft fe ρ p [] s = .ok [] s := (rfl)
noncomputable def kComp1 (g : Tg) (ft : FT) (fe : FE) (ρ0 : En) (p : Wk) (r : List D) (ρ1 : En) (b : Bool) (s2 : S) : R (List D) := if b = true then (fe ρ1 s2).bind fun x s3 => chk p s3 ((compF g ft fe ρ0 p r s3).bind fun xs s4 => .ok (x :: xs) s4) else chk p s2 (compF g ft fe ρ0 p r s2)
noncomputable def kComp2 (g : Tg) (ft : FT) (fe : FE) (ρ0 : En) (p : Wk) (r : List D) (x : D) (s3 : S) : R (List D) := chk p s3 ((compF g ft fe ρ0 p r s3).bind fun xs s4 => .ok (x :: xs) s4)
theorem comp_cons {g : Tg} {ft : FT} {fe : FE} {p : Wk} {r : List D} {ρ1 : En} (h : setD g d ρ = some ρ1) : compF g ft fe ρ p (d :: r) s = (ft ρ1 s).bind (kComp1 g ft fe ρ p r ρ1) := by
  rw [compF, h]; rfl
@[simp] theorem comp_t {g : Tg} {ft : FT} {fe : FE} {p : Wk} {r : List D} {ρ1 : En} : kComp1 g ft fe ρ p r ρ1 true s = (fe ρ1 s).bind (kComp2 g ft fe ρ p r) := (rfl)
@[simp] theorem comp_f {g : Tg} {ft : FT} {fe : FE} {r : List D} {ρ1 : En} : kComp1 g ft fe ρ (ds, none) r ρ1 false s = compF g ft fe ρ (ds, none) r s := chk_none
@[simp] theorem comp_x {g : Tg} {ft : FT} {fe : FE} {r : List D} : kComp2 g ft fe ρ (ds, none) r d s = (compF g ft fe ρ (ds, none) r s).bind (kCons2 d) := chk_none
@[simp] theorem e_yes : fYes ρ s = .ok true s := (rfl)
theorem lst5 {a0 a1 a2 a3 a4 : PyData} : kLst false [.da a0, .da a1, .da a2, .da a3, .da a4] s = .ok (.lst [a0, a1, a2, a3, a4]) s := (rfl)
theorem tup5 {a0 a1 a2 a3 a4 : PyData} : kTup [.da a0, .da a1, .da a2, .da a3, .da a4] s = .ok (.tup [a0, a1, a2, a3, a4]) s := (rfl)
theorem lst6 {a0 a1 a2 a3 a4 a5 : PyData} : kLst false [.da a0, .da a1, .da a2, .da a3, .da a4, .da a5] s = .ok (.lst [a0, a1, a2, a3, a4, a5]) s := (rfl)
theorem tup6 {a0 a1 a2 a3 a4 a5 : PyData} : kTup [.da a0, .da a1, .da a2, .da a3, .da a4, .da a5] s = .ok (.tup [a0, a1, a2, a3, a4, a5]) s := (rfl)
theorem lst7 {a0 a1 a2 a3 a4 a5 a6 : PyData} : kLst false [.da a0, .da a1, .da a2, .da a3, .da a4, .da a5, .da a6] s = .ok (.lst [a0, a1, a2, a3, a4, a5, a6]) s := (rfl)
theorem tup7 {a0 a1 a2 a3 a4 a5 a6 : PyData} : kTup [.da a0, .da a1, .da a2, .da a3, .da a4, .da a5, .da a6] s = .ok (.tup [a0, a1, a2, a3, a4, a5, a6]) s := (rfl)
theorem lst8 {a0 a1 a2 a3 a4 a5 a6 a7 : PyData} : kLst false [.da a0, .da a1, .da a2, .da a3, .da a4, .da a5, .da a6, .da a7] s = .ok (.lst [a0, a1, a2, a3, a4, a5, a6, a7]) s := (rfl)
theorem tup8 {a0 a1 a2 a3 a4 a5 a6 a7 : PyData} : kTup [.da a0, .da a1, .da a2, .da a3, .da a4, .da a5, .da a6, .da a7] s = .ok (.tup [a0, a1, a2, a3, a4, a5, a6, a7]) s := (rfl)
theorem lst9 {a0 a1 a2 a3 a4 a5 a6 a7 a8 : PyData} : kLst false [.da a0, .da a1, .da a2, .da a3, .da a4, .da a5, .da a6, .da a7, .da a8] s = .ok (.lst [a0, a1, a2, a3, a4, a5, a6, a7, a8]) s := (rfl)
theorem tup9 {a0 a1 a2 a3 a4 a5 a6 a7 a8 : PyData} : kTup [.da a0, .da a1, .da a2, .da a3, .da a4, .da a5, .da a6, .da a7, .da a8] s = .ok (.tup [a0, a1, a2, a3, a4, a5, a6, a7, a8]) s := (rfl)
theorem lst10 {a0 a1 a2 a3 a4 a5 a6 a7 a8 a9 : PyData} : kLst false [.da a0, .da a1, .da a2, .da a3, .da a4, .da a5, .da a6, .da a7, .da a8, .da a9] s = .ok (.lst [a0, a1, a2, a3, a4, a5, a6, a7, a8, a9]) s := (rfl)
theorem tup10 {a0 a1 a2 a3 a4 a5 a6 a7 a8 a9 : PyData} : kTup [.da a0, .da a1, .da a2, .da a3, .da a4, .da a5, .da a6, .da a7, .da a8, .da a9] s = .ok (.tup [a0, a1, a2, a3, a4, a5, a6, a7, a8, a9]) s := (rfl)
theorem lst11 {a0 a1 a2 a3 a4 a5 a6 a7 a8 a9 a10 : PyData} : kLst false [.da a0, .da a1, .da a2, .da a3, .da a4, .da a5, .da a6, .da a7, .da a8, .da a9, .da a10] s = .ok (.lst [a0, a1, a2, a3, a4, a5, a6, a7, a8, a9, a10]) s := (rfl)
theorem tup11 {a0 a1 a2 a3 a4 a5 a6 a7 a8 a9 a10 : PyData} : kTup [.da a0, .da a1, .da a2, .da a3, .da a4, .da a5, .da a6, .da a7, .da a8, .da a9, .da a10] s = .ok (.tup [a0, a1, a2, a3, a4, a5, a6, a7, a8, a9, a10]) s := (rfl)
theorem lst12 {a0 a1 a2 a3 a4 a5 a6 a7 a8 a9 a10 a11 : PyData} : kLst false [.da a0, .da a1, .da a2, .da a3, .da a4, .da a5, .da a6, .da a7, .da a8, .da a9, .da a10, .da a11] s = .ok (.lst [a0, a1, a2, a3, a4, a5, a6, a7, a8, a9, a10, a11]) s := (rfl)
theorem tup12 {a0 a1 a2 a3 a4 a5 a6 a7 a8 a9 a10 a11 : PyData} : kTup [.da a0, .da a1, .da a2, .da a3, .da a4, .da a5, .da a6, .da a7, .da a8, .da a9, .da a10, .da a11] s = .ok (.tup [a0, a1, a2, a3, a4, a5, a6, a7, a8, a9, a10, a11]) s := (rfl)
theorem lstN1 {a0 : D} : kLst true [a0] s = .ok (.ref s.length) (s ++ [.lst [a0]]) := (rfl)
theorem lstN2 {a0 a1 : D} : kLst true [a0, a1] s = .ok (.ref s.length) (s ++ [.lst [a0, a1]]) := (rfl)
theorem lstN3 {a0 a1 a2 : D} : kLst true [a0, a1, a2] s = .ok (.ref s.length) (s ++ [.lst [a0, a1, a2]]) := (rfl)
theorem lstN4 {a0 a1 a2 a3 : D} : kLst true [a0, a1, a2, a3] s = .ok (.ref s.length) (s ++ [.lst [a0, a1, a2, a3]]) := (rfl)
theorem lstN5 {a0 a1 a2 a3 a4 : D} : kLst true [a0, a1, a2, a3, a4] s = .ok (.ref s.length) (s ++ [.lst [a0, a1, a2, a3, a4]]) := (rfl)
theorem lstN6 {a0 a1 a2 a3 a4 a5 : D} : kLst true [a0, a1, a2, a3, a4, a5] s = .ok (.ref s.length) (s ++ [.lst [a0, a1, a2, a3, a4, a5]]) := (rfl)
theorem kLst_da (h : xs.length ≤ 16777216) : kLst false (xs.map D.da) s = .ok (.lst xs) s := kLst_ok (pures_da xs) (by rw [List.length_map]; exact h)
theorem kTup_da (h : xs.length ≤ 16777216) : kTup (xs.map D.da) s = .ok (.tup xs) s := kTup_ok (pures_da xs) (by rw [List.length_map]; exact h)
theorem it0 {a0 : PyData} {r : List PyData} : gIx (.tup (a0 :: r)) (.int 0) s = .ok (.da a0) s := gIx_tup (k := 0) rfl
theorem il0 {a0 : PyData} {r : List PyData} : gIx (.lst (a0 :: r)) (.int 0) s = .ok (.da a0) s := gIx_lst (k := 0) rfl
theorem it1 {a0 a1 : PyData} {r : List PyData} : gIx (.tup (a0 :: a1 :: r)) (.int 1) s = .ok (.da a1) s := gIx_tup (k := 1) rfl
theorem il1 {a0 a1 : PyData} {r : List PyData} : gIx (.lst (a0 :: a1 :: r)) (.int 1) s = .ok (.da a1) s := gIx_lst (k := 1) rfl
theorem it2 {a0 a1 a2 : PyData} {r : List PyData} : gIx (.tup (a0 :: a1 :: a2 :: r)) (.int 2) s = .ok (.da a2) s := gIx_tup (k := 2) rfl
theorem il2 {a0 a1 a2 : PyData} {r : List PyData} : gIx (.lst (a0 :: a1 :: a2 :: r)) (.int 2) s = .ok (.da a2) s := gIx_lst (k := 2) rfl
theorem it3 {a0 a1 a2 a3 : PyData} {r : List PyData} : gIx (.tup (a0 :: a1 :: a2 :: a3 :: r)) (.int 3) s = .ok (.da a3) s := gIx_tup (k := 3) rfl
theorem il3 {a0 a1 a2 a3 : PyData} {r : List PyData} : gIx (.lst (a0 :: a1 :: a2 :: a3 :: r)) (.int 3) s = .ok (.da a3) s := gIx_lst (k := 3) rfl
theorem it4 {a0 a1 a2 a3 a4 : PyData} {r : List PyData} : gIx (.tup (a0 :: a1 :: a2 :: a3 :: a4 :: r)) (.int 4) s = .ok (.da a4) s := gIx_tup (k := 4) rfl
theorem il4 {a0 a1 a2 a3 a4 : PyData} {r : List PyData} : gIx (.lst (a0 :: a1 :: a2 :: a3 :: a4 :: r)) (.int 4) s = .ok (.da a4) s := gIx_lst (k := 4) rfl
theorem it5 {a0 a1 a2 a3 a4 a5 : PyData} {r : List PyData} : gIx (.tup (a0 :: a1 :: a2 :: a3 :: a4 :: a5 :: r)) (.int 5) s = .ok (.da a5) s := gIx_tup (k := 5) rfl
theorem il5 {a0 a1 a2 a3 a4 a5 : PyData} {r : List PyData} : gIx (.lst (a0 :: a1 :: a2 :: a3 :: a4 :: a5 :: r)) (.int 5) s = .ok (.da a5) s := gIx_lst (k := 5) rfl
theorem l_set0 {r : En} {y : Option D} : kSet 0 (y :: r) d s = .ok (.nx (some d :: r)) s := (rfl)
theorem l_nm0 {r : En} {y : Option D} : setD (.nm 0) d (y :: r) = some (some d :: r) := (rfl)
theorem l_set1 {r : En} {x0 y : Option D} : kSet 1 (x0 :: y :: r) d s = .ok (.nx (x0 :: some d :: r)) s := (rfl)
theorem l_nm1 {r : En} {x0 y : Option D} : setD (.nm 1) d (x0 :: y :: r) = some (x0 :: some d :: r) := (rfl)
theorem l_set2 {r : En} {x0 x1 y : Option D} : kSet 2 (x0 :: x1 :: y :: r) d s = .ok (.nx (x0 :: x1 :: some d :: r)) s := (rfl)
theorem l_nm2 {r : En} {x0 x1 y : Option D} : setD (.nm 2) d (x0 :: x1 :: y :: r) = some (x0 :: x1 :: some d :: r) := (rfl)
theorem l_set3 {r : En} {x0 x1 x2 y : Option D} : kSet 3 (x0 :: x1 :: x2 :: y :: r) d s = .ok (.nx (x0 :: x1 :: x2 :: some d :: r)) s := (rfl)
theorem l_nm3 {r : En} {x0 x1 x2 y : Option D} : setD (.nm 3) d (x0 :: x1 :: x2 :: y :: r) = some (x0 :: x1 :: x2 :: some d :: r) := (rfl)
theorem l_set4 {r : En} {x0 x1 x2 x3 y : Option D} : kSet 4 (x0 :: x1 :: x2 :: x3 :: y :: r) d s = .ok (.nx (x0 :: x1 :: x2 :: x3 :: some d :: r)) s := (rfl)
theorem l_nm4 {r : En} {x0 x1 x2 x3 y : Option D} : setD (.nm 4) d (x0 :: x1 :: x2 :: x3 :: y :: r) = some (x0 :: x1 :: x2 :: x3 :: some d :: r) := (rfl)
theorem l_set5 {r : En} {x0 x1 x2 x3 x4 y : Option D} : kSet 5 (x0 :: x1 :: x2 :: x3 :: x4 :: y :: r) d s = .ok (.nx (x0 :: x1 :: x2 :: x3 :: x4 :: some d :: r)) s := (rfl)
theorem l_nm5 {r : En} {x0 x1 x2 x3 x4 y : Option D} : setD (.nm 5) d (x0 :: x1 :: x2 :: x3 :: x4 :: y :: r) = some (x0 :: x1 :: x2 :: x3 :: x4 :: some d :: r) := (rfl)
theorem l_set6 {r : En} {x0 x1 x2 x3 x4 x5 y : Option D} : kSet 6 (x0 :: x1 :: x2 :: x3 :: x4 :: x5 :: y :: r) d s = .ok (.nx (x0 :: x1 :: x2 :: x3 :: x4 :: x5 :: some d :: r)) s := (rfl)
theorem l_nm6 {r : En} {x0 x1 x2 x3 x4 x5 y : Option D} : setD (.nm 6) d (x0 :: x1 :: x2 :: x3 :: x4 :: x5 :: y :: r) = some (x0 :: x1 :: x2 :: x3 :: x4 :: x5 :: some d :: r) := (rfl)
theorem l_set7 {r : En} {x0 x1 x2 x3 x4 x5 x6 y : Option D} : kSet 7 (x0 :: x1 :: x2 :: x3 :: x4 :: x5 :: x6 :: y :: r) d s = .ok (.nx (x0 :: x1 :: x2 :: x3 :: x4 :: x5 :: x6 :: some d :: r)) s := (rfl)
theorem l_nm7 {r : En} {x0 x1 x2 x3 x4 x5 x6 y : Option D} : setD (.nm 7) d (x0 :: x1 :: x2 :: x3 :: x4 :: x5 :: x6 :: y :: r) = some (x0 :: x1 :: x2 :: x3 :: x4 :: x5 :: x6 :: some d :: r) := (rfl)
theorem l_set8 {r : En} {x0 x1 x2 x3 x4 x5 x6 x7 y : Option D} : kSet 8 (x0 :: x1 :: x2 :: x3 :: x4 :: x5 :: x6 :: x7 :: y :: r) d s = .ok (.nx (x0 :: x1 :: x2 :: x3 :: x4 :: x5 :: x6 :: x7 :: some d :: r)) s := (rfl)
theorem l_nm8 {r : En} {x0 x1 x2 x3 x4 x5 x6 x7 y : Option D} : setD (.nm 8) d (x0 :: x1 :: x2 :: x3 :: x4 :: x5 :: x6 :: x7 :: y :: r) = some (x0 :: x1 :: x2 :: x3 :: x4 :: x5 :: x6 :: x7 :: some d :: r) := (rfl)
theorem l_set9 {r : En} {x0 x1 x2 x3 x4 x5 x6 x7 x8 y : Option D} : kSet 9 (x0 :: x1 :: x2 :: x3 :: x4 :: x5 :: x6 :: x7 :: x8 :: y :: r) d s = .ok (.nx (x0 :: x1 :: x2 :: x3 :: x4 :: x5 :: x6 :: x7 :: x8 :: some d :: r)) s := (rfl)
theorem l_nm9 {r : En} {x0 x1 x2 x3 x4 x5 x6 x7 x8 y : Option D} : setD (.nm 9) d (x0 :: x1 :: x2 :: x3 :: x4 :: x5 :: x6 :: x7 :: x8 :: y :: r) = some (x0 :: x1 :: x2 :: x3 :: x4 :: x5 :: x6 :: x7 :: x8 :: some d :: r) := (rfl)
theorem l_set10 {r : En} {x0 x1 x2 x3 x4 x5 x6 x7 x8 x9 y : Option D} : kSet 10 (x0 :: x1 :: x2 :: x3 :: x4 :: x5 :: x6 :: x7 :: x8 :: x9 :: y :: r) d s = .ok (.nx (x0 :: x1 :: x2 :: x3 :: x4 :: x5 :: x6 :: x7 :: x8 :: x9 :: some d :: r)) s := (rfl)
theorem l_nm10 {r : En} {x0 x1 x2 x3 x4 x5 x6 x7 x8 x9 y : Option D} : setD (.nm 10) d (x0 :: x1 :: x2 :: x3 :: x4 :: x5 :: x6 :: x7 :: x8 :: x9 :: y :: r) = some (x0 :: x1 :: x2 :: x3 :: x4 :: x5 :: x6 :: x7 :: x8 :: x9 :: some d :: r) := (rfl)
theorem l_set11 {r : En} {x0 x1 x2 x3 x4 x5 x6 x7 x8 x9 x10 y : Option D} : kSet 11 (x0 :: x1 :: x2 :: x3 :: x4 :: x5 :: x6 :: x7 :: x8 :: x9 :: x10 :: y :: r) d s = .ok (.nx (x0 :: x1 :: x2 :: x3 :: x4 :: x5 :: x6 :: x7 :: x8 :: x9 :: x10 :: some d :: r)) s := (rfl)
theorem l_nm11 {r : En} {x0 x1 x2 x3 x4 x5 x6 x7 x8 x9 x10 y : Option D} : setD (.nm 11) d (x0 :: x1 :: x2 :: x3 :: x4 :: x5 :: x6 :: x7 :: x8 :: x9 :: x10 :: y :: r) = some (x0 :: x1 :: x2 :: x3 :: x4 :: x5 :: x6 :: x7 :: x8 :: x9 :: x10 :: some d :: r) := (rfl)
theorem l_set12 {r : En} {x0 x1 x2 x3 x4 x5 x6 x7 x8 x9 x10 x11 y : Option D} : kSet 12 (x0 :: x1 :: x2 :: x3 :: x4 :: x5 :: x6 :: x7 :: x8 :: x9 :: x10 :: x11 :: y :: r) d s = .ok (.nx (x0 :: x1 :: x2 :: x3 :: x4 :: x5 :: x6 :: x7 :: x8 :: x9 :: x10 :: x11 :: some d :: r)) s := (rfl)
theorem l_nm12 {r : En} {x0 x1 x2 x3 x4 x5 x6 x7 x8 x9 x10 x11 y : Option D} : setD (.nm 12) d (x0 :: x1 :: x2 :: x3 :: x4 :: x5 :: x6 :: x7 :: x8 :: x9 :: x10 :: x11 :: y :: r) = some (x0 :: x1 :: x2 :: x3 :: x4 :: x5 :: x6 :: x7 :: x8 :: x9 :: x10 :: x11 :: some d :: r) := (rfl)
theorem l_set13 {r : En} {x0 x1 x2 x3 x4 x5 x6 x7 x8 x9 x10 x11 x12 y : Option D} : kSet 13 (x0 :: x1 :: x2 :: x3 :: x4 :: x5 :: x6 :: x7 :: x8 :: x9 :: x10 :: x11 :: x12 :: y :: r) d s = .ok (.nx (x0 :: x1 :: x2 :: x3 :: x4 :: x5 :: x6 :: x7 :: x8 :: x9 :: x10 :: x11 :: x12 :: some d :: r)) s := (rfl)
theorem l_nm13 {r : En} {x0 x1 x2 x3 x4 x5 x6 x7 x8 x9 x10 x11 x12 y : Option D} : setD (.nm 13) d (x0 :: x1 :: x2 :: x3 :: x4 :: x5 :: x6 :: x7 :: x8 :: x9 :: x10 :: x11 :: x12 :: y :: r) = some (x0 :: x1 :: x2 :: x3 :: x4 :: x5 :: x6 :: x7 :: x8 :: x9 :: x10 :: x11 :: x12 :: some d :: r) := (rfl)
theorem e_var13 {r : En} {x0 x1 x2 x3 x4 x5 x6 x7 x8 x9 x10 x11 x12 : Option D} : fVar 13 (x0 :: x1 :: x2 :: x3 :: x4 :: x5 :: x6 :: x7 :: x8 :: x9 :: x10 :: x11 :: x12 :: some d :: r) s = .ok d s := (rfl)
theorem l_set14 {r : En} {x0 x1 x2 x3 x4 x5 x6 x7 x8 x9 x10 x11 x12 x13 y : Option D} : kSet 14 (x0 :: x1 :: x2 :: x3 :: x4 :: x5 :: x6 :: x7 :: x8 :: x9 :: x10 :: x11 :: x12 :: x13 :: y :: r) d s = .ok (.nx (x0 :: x1 :: x2 :: x3 :: x4 :: x5 :: x6 :: x7 :: x8 :: x9 :: x10 :: x11 :: x12 :: x13 :: some d :: r)) s := (rfl)
theorem l_nm14 {r : En} {x0 x1 x2 x3 x4 x5 x6 x7 x8 x9 x10 x11 x12 x13 y : Option D} : setD (.nm 14) d (x0 :: x1 :: x2 :: x3 :: x4 :: x5 :: x6 :: x7 :: x8 :: x9 :: x10 :: x11 :: x12 :: x13 :: y :: r) = some (x0 :: x1 :: x2 :: x3 :: x4 :: x5 :: x6 :: x7 :: x8 :: x9 :: x10 :: x11 :: x12 :: x13 :: some d :: r) := (rfl)
theorem e_var14 {r : En} {x0 x1 x2 x3 x4 x5 x6 x7 x8 x9 x10 x11 x12 x13 : Option D} : fVar 14 (x0 :: x1 :: x2 :: x3 :: x4 :: x5 :: x6 :: x7 :: x8 :: x9 :: x10 :: x11 :: x12 :: x13 :: some d :: r) s = .ok d s := (rfl)
theorem l_set15 {r : En} {x0 x1 x2 x3 x4 x5 x6 x7 x8 x9 x10 x11 x12 x13 x14 y : Option D} : kSet 15 (x0 :: x1 :: x2 :: x3 :: x4 :: x5 :: x6 :: x7 :: x8 :: x9 :: x10 :: x11 :: x12 :: x13 :: x14 :: y :: r) d s = .ok (.nx (x0 :: x1 :: x2 :: x3 :: x4 :: x5 :: x6 :: x7 :: x8 :: x9 :: x10 :: x11 :: x12 :: x13 :: x14 :: some d :: r)) s := (rfl)
theorem l_nm15 {r : En} {x0 x1 x2 x3 x4 x5 x6 x7 x8 x9 x10 x11 x12 x13 x14 y : Option D} : setD (.nm 15) d (x0 :: x1 :: x2 :: x3 :: x4 :: x5 :: x6 :: x7 :: x8 :: x9 :: x10 :: x11 :: x12 :: x13 :: x14 :: y :: r) = some (x0 :: x1 :: x2 :: x3 :: x4 :: x5 :: x6 :: x7 :: x8 :: x9 :: x10 :: x11 :: x12 :: x13 :: x14 :: some d :: r) := (rfl)
theorem e_var15 {r : En} {x0 x1 x2 x3 x4 x5 x6 x7 x8 x9 x10 x11 x12 x13 x14 : Option D} : fVar 15 (x0 :: x1 :: x2 :: x3 :: x4 :: x5 :: x6 :: x7 :: x8 :: x9 :: x10 :: x11 :: x12 :: x13 :: x14 :: some d :: r) s = .ok d s := (rfl)
theorem l_set16 {r : En} {x0 x1 x2 x3 x4 x5 x6 x7 x8 x9 x10 x11 x12 x13 x14 x15 y : Option D} : kSet 16 (x0 :: x1 :: x2 :: x3 :: x4 :: x5 :: x6 :: x7 :: x8 :: x9 :: x10 :: x11 :: x12 :: x13 :: x14 :: x15 :: y :: r) d s = .ok (.nx (x0 :: x1 :: x2 :: x3 :: x4 :: x5 :: x6 :: x7 :: x8 :: x9 :: x10 :: x11 :: x12 :: x13 :: x14 :: x15 :: some d :: r)) s := (rfl)
theorem l_nm16 {r : En} {x0 x1 x2 x3 x4 x5 x6 x7 x8 x9 x10 x11 x12 x13 x14 x15 y : Option D} : setD (.nm 16) d (x0 :: x1 :: x2 :: x3 :: x4 :: x5 :: x6 :: x7 :: x8 :: x9 :: x10 :: x11 :: x12 :: x13 :: x14 :: x15 :: y :: r) = some (x0 :: x1 :: x2 :: x3 :: x4 :: x5 :: x6 :: x7 :: x8 :: x9 :: x10 :: x11 :: x12 :: x13 :: x14 :: x15 :: some d :: r) := (rfl)
theorem e_var16 {r : En} {x0 x1 x2 x3 x4 x5 x6 x7 x8 x9 x10 x11 x12 x13 x14 x15 : Option D} : fVar 16 (x0 :: x1 :: x2 :: x3 :: x4 :: x5 :: x6 :: x7 :: x8 :: x9 :: x10 :: x11 :: x12 :: x13 :: x14 :: x15 :: some d :: r) s = .ok d s := (rfl)
theorem l_set17 {r : En} {x0 x1 x2 x3 x4 x5 x6 x7 x8 x9 x10 x11 x12 x13 x14 x15 x16 y : Option D} : kSet 17 (x0 :: x1 :: x2 :: x3 :: x4 :: x5 :: x6 :: x7 :: x8 :: x9 :: x10 :: x11 :: x12 :: x13 :: x14 :: x15 :: x16 :: y :: r) d s = .ok (.nx (x0 :: x1 :: x2 :: x3 :: x4 :: x5 :: x6 :: x7 :: x8 :: x9 :: x10 :: x11 :: x12 :: x13 :: x14 :: x15 :: x16 :: some d :: r)) s := (rfl)
theorem l_nm17 {r : En} {x0 x1 x2 x3 x4 x5 x6 x7 x8 x9 x10 x11 x12 x13 x14 x15 x16 y : Option D} : setD (.nm 17) d (x0 :: x1 :: x2 :: x3 :: x4 :: x5 :: x6 :: x7 :: x8 :: x9 :: x10 :: x11 :: x12 :: x13 :: x14 :: x15 :: x16 :: y :: r) = some (x0 :: x1 :: x2 :: x3 :: x4 :: x5 :: x6 :: x7 :: x8 :: x9 :: x10 :: x11 :: x12 :: x13 :: x14 :: x15 :: x16 :: some d :: r) := (rfl)
theorem e_var17 {r : En} {x0 x1 x2 x3 x4 x5 x6 x7 x8 x9 x10 x11 x12 x13 x14 x15 x16 : Option D} : fVar 17 (x0 :: x1 :: x2 :: x3 :: x4 :: x5 :: x6 :: x7 :: x8 :: x9 :: x10 :: x11 :: x12 :: x13 :: x14 :: x15 :: x16 :: some d :: r) s = .ok d s := (rfl)
theorem l_set18 {r : En} {x0 x1 x2 x3 x4 x5 x6 x7 x8 x9 x10 x11 x12 x13 x14 x15 x16 x17 y : Option D} : kSet 18 (x0 :: x1 :: x2 :: x3 :: x4 :: x5 :: x6 :: x7 :: x8 :: x9 :: x10 :: x11 :: x12 :: x13 :: x14 :: x15 :: x16 :: x17 :: y :: r) d s = .ok (.nx (x0 :: x1 :: x2 :: x3 :: x4 :: x5 :: x6 :: x7 :: x8 :: x9 :: x10 :: x11 :: x12 :: x13 :: x14 :: x15 :: x16 :: x17 :: some d :: r)) s := (rfl)
theorem l_nm18 {r : En} {x0 x1 x2 x3 x4 x5 x6 x7 x8 x9 x10 x11 x12 x13 x14 x15 x16 x17 y : Option D} : setD (.nm 18) d (x0 :: x1 :: x2 :: x3 :: x4 :: x5 :: x6 :: x7 :: x8 :: x9 :: x10 :: x11 :: x12 :: x13 :: x14 :: x15 :: x16 :: x17 :: y :: r) = some (x0 :: x1 :: x2 :: x3 :: x4 :: x5 :: x6 :: x7 :: x8 :: x9 :: x10 :: x11 :: x12 :: x13 :: x14 :: x15 :: x16 :: x17 :: some d :: r) := (rfl)
theorem e_var18 {r : En} {x0 x1 x2 x3 x4 x5 x6 x7 x8 x9 x10 x11 x12 x13 x14 x15 x16 x17 : Option D} : fVar 18 (x0 :: x1 :: x2 :: x3 :: x4 :: x5 :: x6 :: x7 :: x8 :: x9 :: x10 :: x11 :: x12 :: x13 :: x14 :: x15 :: x16 :: x17 :: some d :: r) s = .ok d s := (rfl)
theorem l_set19 {r : En} {x0 x1 x2 x3 x4 x5 x6 x7 x8 x9 x10 x11 x12 x13 x14 x15 x16 x17 x18 y : Option D} : kSet 19 (x0 :: x1 :: x2 :: x3 :: x4 :: x5 :: x6 :: x7 :: x8 :: x9 :: x10 :: x11 :: x12 :: x13 :: x14 :: x15 :: x16 :: x17 :: x18 :: y :: r) d s = .ok (.nx (x0 :: x1 :: x2 :: x3 :: x4 :: x5 :: x6 :: x7 :: x8 :: x9 :: x10 :: x11 :: x12 :: x13 :: x14 :: x15 :: x16 :: x17 :: x18 :: some d :: r)) s := (rfl)
theorem l_nm19 {r : En} {x0 x1 x2 x3 x4 x5 x6 x7 x8 x9 x10 x11 x12 x13 x14 x15 x16 x17 x18 y : Option D} : setD (.nm 19) d (x0 :: x1 :: x2 :: x3 :: x4 :: x5 :: x6 :: x7 :: x8 :: x9 :: x10 :: x11 :: x12 :: x13 :: x14 :: x15 :: x16 :: x17 :: x18 :: y :: r) = some (x0 :: x1 :: x2 :: x3 :: x4 :: x5 :: x6 :: x7 :: x8 :: x9 :: x10 :: x11 :: x12 :: x13 :: x14 :: x15 :: x16 :: x17 :: x18 :: some d :: r) := (rfl)
theorem e_var19 {r : En} {x0 x1 x2 x3 x4 x5 x6 x7 x8 x9 x10 x11 x12 x13 x14 x15 x16 x17 x18 : Option D} : fVar 19 (x0 :: x1 :: x2 :: x3 :: x4 :: x5 :: x6 :: x7 :: x8 :: x9 :: x10 :: x11 :: x12 :: x13 :: x14 :: x15 :: x16 :: x17 :: x18 :: some d :: r) s = .ok d s := (rfl)
end
@[simp] theorem R.bind_ok' {α β : Type} (a : α) (s : S) (f : α → S → R β) : (R.ok a s).bind f = f a s := (rfl)
@[simp] theorem R.W_ok' {α : Type} (a : α) (s : S) (Q : α → S → Prop) : (R.ok a s).W Q = Q a s := (rfl)
end PF
namespace PF
open PySem PySem.Spec
open L2
def flW (J : En → S → Prop) (Q : Fl → S → Prop) (fl : Fl) (s : S) : Prop := match fl with
  | .nx ρ => J ρ s
  | .ct ρ => J ρ s
  | .bk ρ => Q (.nx ρ) s
  | .rt d => Q (.rt d) s
theorem loop_inv {g : Tg} {fb : FS} {all : List D} {Q : Fl → S → Prop} (J : List D → En → S → Prop)
    (step : ∀ d r ρ s, J (d :: r) ρ s → ∃ ρ1, setD g d ρ = some ρ1 ∧ (fb ρ1 s).W (flW (J r) Q)) (fin : ∀ ρ s, J [] ρ s → Q (.nx ρ) s) :
    ∀ (ds : List D) (ρ : En) (s : S), J ds ρ s → (loopF g fb (all, none) ds ρ s).W Q
  | [], ρ, s, h => fin ρ s h
  | d :: r, ρ, s, h => by
    obtain ⟨ρ1, e, w⟩ := step d r ρ s h
    rw [loop_cons e, R.W_bind]
    refine R.W_mono w fun fl s1 q => ?_
    cases fl with
    | nx ρ2 => rw [loop_nx]; exact loop_inv J step fin r ρ2 s1 q
    | ct ρ2 => rw [loop_ct]; exact loop_inv J step fin r ρ2 s1 q
    | bk ρ2 => rw [loop_bk]; exact q
    | rt d => rw [loop_rt]; exact q
theorem comp_inv {g : Tg} {ft : FT} {fe : FE} {ρ0 : En} {all : List D} {Q : List D → S → Prop} (J : List D → List D → S → Prop)
    (step : ∀ d r acc s, J (d :: r) acc s → ∃ ρ1, setD g d ρ0 = some ρ1 ∧ (ft ρ1 s).W fun b s2 => if b = true then (fe ρ1 s2).W fun x s3 => J r (acc ++ [x]) s3 else J r acc s2) (fin : ∀ acc s, J [] acc s → Q acc s) :
    ∀ (ds acc : List D) (s : S), J ds acc s → (compF g ft fe ρ0 (all, none) ds s).W fun xs s' => Q (acc ++ xs) s'
  | [], acc, s, h => by
    rw [comp_nil, R.W_ok, List.append_nil]
    exact fin acc s h
  | d :: r, acc, s, h => by
    obtain ⟨ρ1, e, w⟩ := step d r acc s h
    rw [comp_cons e, R.W_bind]
    refine R.W_mono w fun b s1 q => ?_
    cases b with
    | false =>
      rw [comp_f]
      rw [if_neg Bool.false_ne_true] at q
      exact comp_inv J step fin r acc s1 q
    | true =>
      rw [comp_t, R.W_bind]
      rw [if_pos rfl] at q
      refine R.W_mono q fun x s2 q2 => ?_
      rw [comp_x, R.W_bind]
      refine R.W_mono (comp_inv J step fin r (acc ++ [x]) s2 q2) fun xs s3 q3 => ?_
      rw [e_cons2, R.W_ok]
      rw [List.append_assoc] at q3
      exact q3
structure Ext (s s' : S) : Prop where
  ex : ∃ g, s' = s ++ g
theorem Ext.refl (s : S) : Ext s s := ⟨[], by simp⟩
theorem Ext.trans {a b c : S} (h1 : Ext a b) (h2 : Ext b c) : Ext a c := by
  obtain ⟨g, rfl⟩ := h1.ex
  obtain ⟨k, rfl⟩ := h2.ex
  exact ⟨g ++ k, by rw [List.append_assoc]⟩
theorem Ext.add (s g : S) : Ext s (s ++ g) := ⟨g, rfl⟩
theorem Ext.len {s s' : S} (h : Ext s s') : s.length ≤ s'.length := by obtain ⟨g, rfl⟩ := h.ex; simp
theorem Ext.get {s s' : S} (h : Ext s s') {k : Nat} {o : O} (e : s[k]? = some o) : s'[k]? = some o := by
  obtain ⟨g, rfl⟩ := h.ex
  rw [List.getElem?_append_left (List.getElem?_eq_some_iff.mp e).1]; exact e
theorem Ext.getE {s s' : S} (h : Ext s s') {k : Nat} (e : k < s.length) : s'[k]? = s[k]? := by
  obtain ⟨g, rfl⟩ := h.ex
  rw [List.getElem?_append_left e]
structure Same (n : Nat) (s s' : S) : Prop where
  len : s.length ≤ s'.length
  get : ∀ k, k ≠ n → k < s.length → s'[k]? = s[k]?
theorem Same.refl (n : Nat) (s : S) : Same n s s := ⟨Nat.le_refl _, fun _ _ _ => rfl⟩
theorem Same.trans {n : Nat} {a b c : S} (h1 : Same n a b) (h2 : Same n b c) : Same n a c := ⟨Nat.le_trans h1.len h2.len, fun k hk hl => (h2.get k hk (Nat.lt_of_lt_of_le hl h1.len)).trans (h1.get k hk hl)⟩
theorem Ext.same {s s' : S} (h : Ext s s') (n : Nat) : Same n s s' := ⟨h.len, fun _ _ hl => h.getE hl⟩
theorem same_set {n : Nat} {s : S} {o : O} : Same n s (s.set n o) := ⟨by simp, fun k hk hl => List.getElem?_set_ne (Ne.symm hk)⟩
theorem Same.own {n k : Nat} {s s' : S} {o : O} (h : Same n s s') (hk : s.length ≤ k) : Same n s (s'.set k o) := ⟨by simpa using h.len, fun j hj hl => by rw [List.getElem?_set_ne (by omega)]; exact h.get j hj hl⟩
theorem set_self {α : Type} {s : List α} {n : Nat} {o : α} (e : s[n]? = some o) : s.set n o = s := by
  apply List.ext_getElem?
  intro i
  by_cases z : n = i
  · subst z
    have hl := (List.getElem?_eq_some_iff.mp e).1
    rw [List.getElem?_set_self hl, e]
  · rw [List.getElem?_set_ne z]
structure Nice (B D : Nat) (d : PyData) : Prop where
  ls : d.leavesShort 13 = true
  sh : d.showable = true
  cl : d.canLay0 = true
  bk : d.bulk ≤ B
  dp : d.depth ≤ D
structure Nices (B D : Nat) (ds : List PyData) : Prop where
  ls : PyData.leavesShortAll 13 ds = true
  sh : PyData.showableAll ds = true
  cl : PyData.canLayAll0 ds = true
  bk : PyData.bulkAll ds ≤ B
  dp : PyData.depthAll ds ≤ D
theorem Nice.mono {B D B' D' : Nat} {d : PyData} (h : Nice B D d) (hb : B ≤ B') (hd : D ≤ D') : Nice B' D' d := ⟨h.ls, h.sh, h.cl, Nat.le_trans h.bk hb, Nat.le_trans h.dp hd⟩
theorem Nices.mono {B D B' D' : Nat} {ds : List PyData} (h : Nices B D ds) (hb : B ≤ B') (hd : D ≤ D') : Nices B' D' ds := ⟨h.ls, h.sh, h.cl, Nat.le_trans h.bk hb, Nat.le_trans h.dp hd⟩
theorem Nices.nil {D : Nat} : Nices 0 D [] := ⟨rfl, rfl, rfl, Nat.le_refl _, Nat.zero_le _⟩
theorem Nices.cons {B B' D : Nat} {d : PyData} {ds : List PyData} (h : Nice B D d) (t : Nices B' D ds) : Nices (B + 1 + B') D (d :: ds) := by
  obtain ⟨a1, a2, a5, a3, a4⟩ := h
  obtain ⟨b1, b2, b5, b3, b4⟩ := t
  refine ⟨?_, ?_, ?_, ?_, ?_⟩
  · simp only [PyData.leavesShortAll, a1, b1, Bool.and_self]
  · simp only [PyData.showableAll, a2, b2, Bool.and_self]
  · simp only [PyData.canLayAll0, a5, b5, Bool.and_self]
  · simp only [PyData.bulkAll]; omega
  · simp only [PyData.depthAll]; omega
theorem Nices.tup {B D : Nat} {ds : List PyData} (h : Nices B D ds) : Nice B (D + 1) (.tuple ds) := by
  obtain ⟨b1, b2, b5, b3, b4⟩ := h
  refine ⟨?_, ?_, ?_, ?_, ?_⟩
  · simpa only [PyData.leavesShort] using b1
  · simpa only [PyData.showable] using b2
  · simpa only [PyData.canLay0] using b5
  · simpa only [PyData.bulk] using b3
  · simp only [PyData.depth]; omega
theorem Nices.lst {B D : Nat} {ds : List PyData} (h : Nices B D ds) : Nice B (D + 1) (.list ds) := by
  obtain ⟨b1, b2, b5, b3, b4⟩ := h
  refine ⟨?_, ?_, ?_, ?_, ?_⟩
  · simpa only [PyData.leavesShort] using b1
  · simpa only [PyData.showable] using b2
  · simpa only [PyData.canLay0] using b5
  · simpa only [PyData.bulk] using b3
  · simp only [PyData.depth]; omega
theorem Nice.okS {B D : Nat} {d : PyData} (h : Nice B D d) (hb : B ≤ 1048576) (hd : D ≤ 64) : okS d = true := by
  unfold PF.okS
  (simp only [Bool.and_eq_true, decide_eq_true_eq])
  exact ⟨⟨⟨h.cl, h.sh⟩, Nat.le_trans h.dp hd⟩, PyData.shown_fits_bulk (by decide) (by decide) h.ls (Nat.le_trans h.bk hb)⟩
theorem Nice.okD {B D : Nat} {d : PyData} (h : Nice B D d) (hd : D ≤ 64) : okD d = true := by
  unfold PF.okD
  rw [Bool.and_eq_true]
  exact ⟨h.cl, decide_eq_true (Nat.le_trans h.dp hd)⟩
theorem Nices.get {B D : Nat} : ∀ {ds : List PyData} {d : PyData}, Nices B D ds → d ∈ ds → Nice B D d
  | [], _, _, m => by cases m
  | x :: r, d, h, m => by
    obtain ⟨b1, b2, b5, b3, b4⟩ := h
    simp only [PyData.leavesShortAll, Bool.and_eq_true] at b1
    simp only [PyData.showableAll, Bool.and_eq_true] at b2
    simp only [PyData.canLayAll0, Bool.and_eq_true] at b5
    simp only [PyData.bulkAll] at b3
    simp only [PyData.depthAll] at b4
    rcases List.mem_cons.mp m with z | z
    · subst z; exact ⟨b1.1, b2.1, b5.1, by omega, by omega⟩
    · exact Nices.get (ds := r) ⟨b1.2, b2.2, b5.2, by omega, by omega⟩ z
theorem Nice.tup_inv {B D : Nat} {ds : List PyData} (h : Nice B D (.tuple ds)) : Nices B (D - 1) ds ∧ 1 ≤ D := by
  obtain ⟨b1, b2, b5, b3, b4⟩ := h
  simp only [PyData.depth] at b4
  exact ⟨⟨by simpa only [PyData.leavesShort] using b1, by simpa only [PyData.showable] using b2, by simpa only [PyData.canLay0] using b5, by simpa only [PyData.bulk] using b3, by omega⟩, by omega⟩
theorem nices_all {B D : Nat} : ∀ (ds : List PyData), (∀ d ∈ ds, Nice B D d) → Nices ((B + 1) * ds.length) D ds
  | [], _ => Nices.nil
  | d :: r, h => by
    refine (Nices.cons (h d List.mem_cons_self) (nices_all r fun y hy => h y (List.mem_cons_of_mem _ hy))).mono ?_ (Nat.le_refl _)
    rw [List.length_cons, Nat.mul_add]; omega
theorem nice_none : Nice 0 0 .none := ⟨rfl, rfl, rfl, Nat.le_refl _, by simp [PyData.depth]⟩
theorem nice_bool (b : Bool) : Nice 0 0 (.bool b) := ⟨by cases b <;> rfl, rfl, rfl, by simp [PyData.bulk], by simp [PyData.depth]⟩
theorem nice_int {i : Int} (h0 : i.natAbs < 10 ^ 12) : Nice 0 0 (.int i) := by
  refine ⟨?_, ?_, rfl, Nat.le_refl _, by simp [PyData.depth]⟩
  · simp only [PyData.leavesShort, decide_eq_true_eq]
    exact PyData.shown_int_le h0
  · simp only [PyData.showable, decide_eq_true_eq]
    have : i.natAbs.log2 ≤ i.natAbs := Nat.log2_le_self _
    by_cases z : i.natAbs = 0
    · rw [z]; decide
    · have h2 : i.natAbs < 2 ^ 40 := by omega
      have := (Nat.log2_lt z).mpr h2
      omega
def okPort (x : Str) : Bool := (decide (0 < x.length) && decide (x.length ≤ 20)) && x.cps.toList.all fun c => decide (32 ≤ c) && decide (c < 127)
theorem nice_str {x : Str} (h : okPort x = true) : Nice 20 0 (.str x) := by
  unfold okPort at h
  simp only [Bool.and_eq_true, decide_eq_true_eq, List.all_eq_true] at h
  refine ⟨?_, rfl, ?_, h.1.2, by simp [PyData.depth]⟩
  · simp only [PyData.leavesShort, List.all_eq_true, decide_eq_true_eq]
    intro c hc
    have := (h.2 c hc).2
    have e16 : (16 : Nat) ^ 8 = 4294967296 := by decide
    omega
  · simp only [PyData.canLay0]
    unfold PyData.strOk
    (rw [← Array.all_toList, List.all_eq_true])
    intro c hc
    have := (h.2 c hc).2
    (exact decide_eq_true (by omega))
theorem port_pos {x : Str} (h : okPort x = true) : 0 < x.length := by
  unfold okPort at h
  simp only [Bool.and_eq_true, decide_eq_true_eq] at h
  exact h.1.1
theorem nices_strs : ∀ (xs : List Str), (∀ x ∈ xs, okPort x = true) → Nices (21 * xs.length) 0 (xs.map .str)
  | [], _ => Nices.nil
  | x :: r, h => by
    refine (Nices.cons (nice_str (h x List.mem_cons_self)) (nices_strs r fun y hy => h y (List.mem_cons_of_mem _ hy))).mono ?_ (Nat.le_refl _)
    rw [List.length_cons]; omega
end PF
namespace PF
open PySem PySem.Spec
open L2
open PyProof.Rows (envOfC)
section
variable {P : Program} {w : World} {K : PySem.W.Frag} {mg : Str → Option Value} {base : Heap} {x : Str} {st : Stmt} {N ps : List Str} {k : Nat}
theorem fnF {f : Addr} {fd : FuncData} (F : Fun K x x st f fd) (S : FnScope N ps (defScope st)) {m n : Nat} {fb : FS} (hm : N.length = m) (hn : ps.length = n)
    (hbody : ∀ (f : Addr) (cdv : Value) (A : Around) (outer : List Env) (s : Shared) (H : Hp) (E : XK), Room k (A.deeper (envOfC x (defScope st) s.heap.objs.size f cdv)) →
      RSs (cxOf CX0 P w K mg base N x (defScope st) f cdv A outer s H E).nox (defBody st) fb) : FnOk P w K mg base CX0 (k + 1) f fd ps (spF K n (bodyF m fb)) := by
  refine F.ok S (fun vs H Q E h => by rw [hn]; exact h.1) fun cdv A outer s H vs Q E hr h => ?_
  obtain ⟨hv, as, ds, s', rl, rs, h⟩ := h
  obtain ⟨t, p, r⟩ := (hbody f cdv A outer s H E hr).ex
  refine ⟨t, p, ?_⟩
  have en : Envs K as H (ds.map some ++ List.replicate (m - ds.length) none) (L2.start N vs) := by rw [← hm]; exact start_envs rs
  refine r as _ H _ s' _ rl en (Dn.bind h fun fl s1 as1 H1 fv st1 rl1 r1 h1 => ?_)
  cases r1 with
  | nx e => exact Dn.now (Q := Q) h1 rl1 (.da .non)
  | rt e => exact Dn.now (Q := Q) h1 rl1 e
  | bk e => exact h1.elim
  | ct e => exact h1.elim
theorem law_of {f : Addr} {fd : FuncData} {F : FF} (h : FnOk P w K mg base CX0 k f fd ps (spF K 1 F)) (ht : ∀ ns : List Int, ns.length ≤ 63 → (F [.frz (ns.map PyData.int)] []).W fun d _ => d = .bl true) : FnOk P w K mg base CX0 k f fd ps (spLaw K) := by
  refine h.imp fun vs H Q E q => ?_
  obtain ⟨a, ns, rfl, hS, hl, hq⟩ := q
  have R0 : Rel K ⟨[], []⟩ H [] := ⟨rfl, fun i j p e => by simp at e, fun n p o e => by simp at e, fun n o e => by simp at e, fun p hp => by simp at hp, fun p hp => by simp at hp⟩
  refine ⟨rfl, ⟨[], []⟩, [.frz (ns.map PyData.int)], [], R0, .cons (.frz (fun as' H' st => ?_) (TDs.ints ns)) .nil, ?_⟩
  · exact L2.Same.seq (fun b o hb => st.keep b o (by simp [As.has]) hb) hS
  · have t := ht ns hl
    cases hr : F [.frz (ns.map PyData.int)] [] with
    | ok d s =>
      rw [hr] at t
      intro b as' H' st rl rb
      have : d = .bl true := t
      subst this
      cases rb with
      | da z => cases z; exact hq _
    | bad => rw [hr] at t; exact t
end
end PF
namespace PF
open PySem PySem.Spec
open L2
section
variable {X : Cx}
def gLeT (dx dy : D) (s : S) : R D := match dx, dy with
  | .int i, .int j => .ok (.bl (decide (i ≤ j))) s
  | .str a, .str b => .ok (.bl (!decide (b.cps.toList < a.cps.toList))) s
  | _, _ => .bad
theorem o_leT : Op2 X (compareOp .LtE) gLeT := op2_of fun pins sh σ H as s x y dx dy v u Q I rl r1 r2 rx ry h => by
  unfold gLeT at h
  split at h
  · rename_i i j
    cases r1.int_inv; cases r2.int_inv
    exact op_le pins sh σ H _ _ v u Q I rx ry ⟨i, j, rfl, rfl, Dn.now (Q := Q) h rl (.da (.bl _))⟩
  · rename_i a b
    cases r1.str_inv; cases r2.str_inv
    obtain ⟨t, rfl⟩ := rx
    obtain ⟨t', rfl⟩ := ry
    exact PySem.P.le_str ⟨.bl _, H, I, rfl, Dn.now (Q := Q) h rl (.da (.bl _))⟩
  · exact h.elim
theorem gLeT_str {i j : Str} {s : S} : gLeT (.str i) (.str j) s = .ok (.bl (!decide (j.cps.toList < i.cps.toList))) s := (rfl)
end
end PF
namespace Ln
open PySem L2 PF
def top (i : Nat) : Stmt := PySem.Challenge.pw_mannerports_k08_stands_and_moments_by_ki.main.body.getD i (.Pass ⟨0, 0, 0, 0⟩)
abbrev s_is_whole : Stmt := top 1
abbrev s_is_below : Stmt := top 2
abbrev s_ports_of : Stmt := top 5
abbrev s_ports_in : Stmt := top 6
abbrev s_is_thing : Stmt := top 7
abbrev s_is_held : Stmt := top 8
abbrev s_first_stand : Stmt := top 10
abbrev s_is_stand : Stmt := top 11
abbrev s_is_moment : Stmt := top 12
abbrev s_holding_parts : Stmt := top 13
abbrev s_is_moment_of : Stmt := top 14
abbrev s_is_passing : Stmt := top 15
abbrev s__law_feed : Stmt := top 17
abbrev s__law_draw : Stmt := top 18
abbrev s__law_shuffled : Stmt := top 19
abbrev s__law_ports : Stmt := top 20
abbrev s__law_part : Stmt := top 21
abbrev s__law_flat : Stmt := top 22
abbrev s__law_bent : Stmt := top 23
abbrev s__law_names : Stmt := top 24
abbrev s__law_is_thing : Stmt := top 25
abbrev s__law_is_stand : Stmt := top 26
abbrev s__law_is_moment : Stmt := top 27
abbrev s__law_right : Stmt := top 28
abbrev s_law : Stmt := top 29
structure Txt0 (K : PySem.W.Frag) (mg : Str → Option Value) : Prop where
  h_is_whole : Has K mg "is_whole" s_is_whole ["thing"]
  h_is_below : Has K mg "is_below" s_is_below ["many", "thing"]
  h_ports_of : Has K mg "ports_of" s_ports_of ["part"]
  h_ports_in : Has K mg "ports_in" s_ports_in ["net"]
  h_is_thing : Has K mg "is_thing" s_is_thing ["things", "thing"]
  h_is_held : Has K mg "is_held" s_is_held ["things", "thing"]
  h_first_stand : Has K mg "first_stand" s_first_stand ["flat"]
  h_is_stand : Has K mg "is_stand" s_is_stand ["flat", "thing"]
  h_is_moment : Has K mg "is_moment" s_is_moment ["flat", "thing"]
  h_holding_parts : Has K mg "holding_parts" s_holding_parts ["flat"]
  h_is_moment_of : Has K mg "is_moment_of" s_is_moment_of ["things", "ports", "thing"]
  h_is_passing : Has K mg "is_passing" s_is_passing ["things", "ports", "pair"]
  h__law_feed : Has K mg "_law_feed" s__law_feed ["_law_script"]
  h__law_draw : Has K mg "_law_draw" s__law_draw ["_law_feed_here", "_law_many"]
  h__law_shuffled : Has K mg "_law_shuffled" s__law_shuffled ["_law_feed_here", "_law_some"]
  h__law_ports : Has K mg "_law_ports" s__law_ports ["_law_feed_here", "_law_many"]
  h__law_part : Has K mg "_law_part" s__law_part ["_law_feed_here", "_law_things", "_law_ports_here"]
  h__law_flat : Has K mg "_law_flat" s__law_flat ["_law_feed_here", "_law_ports_here", "_law_most"]
  h__law_bent : Has K mg "_law_bent" s__law_bent ["_law_feed_here", "_law_thing"]
  h__law_names : Has K mg "_law_names" s__law_names ["_law_net"]
  h__law_is_thing : Has K mg "_law_is_thing" s__law_is_thing ["_law_net", "_law_thing"]
  h__law_is_stand : Has K mg "_law_is_stand" s__law_is_stand ["_law_net", "_law_thing"]
  h__law_is_moment : Has K mg "_law_is_moment" s__law_is_moment ["_law_net", "_law_thing"]
  h__law_right : Has K mg "_law_right" s__law_right ["_law_net", "_law_thing"]
  h_law : Has K mg "law" s_law ["_law_script"]
  c_HOLDING : ConT K mg "HOLDING" [.str "place", .str "last"]
  n_len : mg "len" = none
  n_min : mg "min" = none
  n_repr : mg "repr" = none
  n_sorted : mg "sorted" = none
  n_list : mg "list" = none
  n_tuple : mg "tuple" = none
  n_set : mg "set" = none
  n_range : mg "range" = none
  n_isinstance : mg "isinstance" = none
  n_str : mg "str" = none
  n_int : mg "int" = none
  n_bool : mg "bool" = none
  n_all : mg "all" = none
end Ln
namespace Ln
open PySem L2 PF
noncomputable def Bis_whole : FS :=
    (fRet (fAnd (fCB gIsi (fCons (fVar 0) (fCons (fC (.ty "int")) fNil))) (fNot (fCB gIsi (fCons (fVar 0) (fCons (fC (.ty "bool")) fNil))))))
noncomputable def Fis_whole : FF := bodyF 1 Bis_whole
theorem eis_whole {a0 : D} {s : S} : Fis_whole [a0] s = (Bis_whole [some a0] s).bind kBody := rfl
theorem scis_whole : FnScope ["thing"] ["thing"] (defScope s_is_whole) := ⟨rfl, rfl, rfl, by decide +kernel, rfl, by decide +kernel, by decide +kernel⟩
section
variable {P : Program} {w : World} {K : PySem.W.Frag} {mg : Str → Option Value} {base : Heap}
theorem okis_whole (T : Txt0 K mg) : CalF P w K mg base "is_whole" 1 1 Fis_whole := by
  exact calF (k := 0) T.h_is_whole scis_whole rfl rfl (fun f cdv A outer s H E hr =>
      (rss_one (rs_ret (re_and (re_cb c_isi T.n_isinstance b_isinstance (ra_cons (re_var 0) (ra_cons (re_bltn T.n_int b_int) ra_nil))) (re_one (re_not (re_cb c_isi T.n_isinstance b_isinstance (ra_cons (re_var 0) (ra_cons (re_bltn T.n_bool b_bool) ra_nil)))))))))
end
end Ln
namespace Ln
open PySem L2 PF
noncomputable def Bis_below : FS :=
    (fRet (fAnd (fCall 1 Fis_whole (fCons (fVar 1) fNil)) (fChain gLe gLt (fC (.da (.int 0))) (fVar 1) (fVar 0))))
noncomputable def Fis_below : FF := bodyF 2 Bis_below
theorem eis_below {a0 a1 : D} {s : S} : Fis_below [a0, a1] s = (Bis_below [some a0, some a1] s).bind kBody := rfl
theorem scis_below : FnScope ["many", "thing"] ["many", "thing"] (defScope s_is_below) := ⟨rfl, rfl, rfl, by decide +kernel, rfl, by decide +kernel, by decide +kernel⟩
section
variable {P : Program} {w : World} {K : PySem.W.Frag} {mg : Str → Option Value} {base : Heap}
theorem okis_below (T : Txt0 K mg) : CalF P w K mg base "is_below" 2 2 Fis_below := by
  have cis_whole := okis_whole (P := P) (w := w) (base := base) T
  exact calF (k := 1) T.h_is_below scis_below rfl rfl (fun f cdv A outer s H E hr =>
      (rss_one (rs_ret (re_and (re_c cis_whole (hr.mono (by decide)) (ra_cons (re_var 1) ra_nil)) (re_one (re_chain o_le o_lt re_int (re_var 1) (re_var 0)))))))
end
end Ln
namespace Ln
open PySem L2 PF
noncomputable def Bports_of : FS :=
    (fSeq (fIfS (fTest (fOp gEq (fOp gIx (fVar 0) (fC (.da (.int 0)))) (fC (.da (.str "copy"))))) (fRet (fOp (gAdd false) (fTup (fCons (fOp gIx (fVar 0) (fC (.da (.int 1)))) fNil)) (fOp gIx (fVar 0) (fC (.da (.int 2)))))) fNext)
    (fSeq (fIfS (fTest (fOp gEq (fOp gIx (fVar 0) (fC (.da (.int 0)))) (fC (.da (.str "merge"))))) (fRet (fOp (gAdd false) (fOp gIx (fVar 0) (fC (.da (.int 1)))) (fTup (fCons (fOp gIx (fVar 0) (fC (.da (.int 2)))) fNil)))) fNext)
    (fSeq (fIfS (fTest (fOp gEq (fOp gIx (fVar 0) (fC (.da (.int 0)))) (fC (.da (.str "net"))))) (fRet (fOp gIx (fVar 0) (fC (.da (.int 2))))) fNext)
    (fRet (fSl false (fVar 0) (fSome (fC (.da (.int 1)))) (fSome (fC (.da (.int 3)))))))))
noncomputable def Fports_of : FF := bodyF 1 Bports_of
theorem eports_of {a0 : D} {s : S} : Fports_of [a0] s = (Bports_of [some a0] s).bind kBody := rfl
theorem scports_of : FnScope ["part"] ["part"] (defScope s_ports_of) := ⟨rfl, rfl, rfl, by decide +kernel, rfl, by decide +kernel, by decide +kernel⟩
section
variable {P : Program} {w : World} {K : PySem.W.Frag} {mg : Str → Option Value} {base : Heap}
theorem okports_of (T : Txt0 K mg) : CalF P w K mg base "ports_of" 1 1 Fports_of := by
  exact calF (k := 0) T.h_ports_of scports_of rfl rfl (fun f cdv A outer s H E hr =>
      (rss_cons (rs_if (rt_cmp (o_eq (u64 hr)) (re_ix (re_var 0) re_int) re_str) (rss_one (rs_ret (re_op (o_add false) (re_tup (ra_cons (re_ix (re_var 0) re_int) ra_nil)) (re_ix (re_var 0) re_int)))) rss_nil)
      (rss_cons (rs_if (rt_cmp (o_eq (u64 hr)) (re_ix (re_var 0) re_int) re_str) (rss_one (rs_ret (re_op (o_add false) (re_ix (re_var 0) re_int) (re_tup (ra_cons (re_ix (re_var 0) re_int) ra_nil))))) rss_nil)
      (rss_cons (rs_if (rt_cmp (o_eq (u64 hr)) (re_ix (re_var 0) re_int) re_str) (rss_one (rs_ret (re_ix (re_var 0) re_int))) rss_nil)
      (rss_one (rs_ret (re_slice false (re_var 0) (ro_some re_int) (ro_some re_int))))))))
end
end Ln
namespace Ln
open PySem L2 PF
noncomputable def Bports_in : FS :=
    (fSeq (fSet 1 (fCB (gList true) (fCons (fOp gIx (fVar 0) (fC (.da (.int 1)))) fNil)))
    (fSeq (fFor (fIt (fOp gIx (fVar 0) (fC (.da (.int 2))))) (.nm 2) (fDrop (fMt gExtend (fVar 1) (fCons (fCall 1 Fports_of (fCons (fVar 2) fNil)) fNil))))
    (fRet (fCB gTuple (fCons (fCB (gSortSet false) (fCons (fVar 1) fNil)) fNil)))))
noncomputable def Fports_in : FF := bodyF 3 Bports_in
theorem eports_in {a0 : D} {s : S} : Fports_in [a0] s = (Bports_in [some a0, none, none] s).bind kBody := rfl
theorem scports_in : FnScope ["net", "ports", "part"] ["net"] (defScope s_ports_in) := ⟨rfl, rfl, rfl, by decide +kernel, rfl, by decide +kernel, by decide +kernel⟩
section
variable {P : Program} {w : World} {K : PySem.W.Frag} {mg : Str → Option Value} {base : Heap}
theorem okports_in (T : Txt0 K mg) : CalF P w K mg base "ports_in" 2 1 Fports_in := by
  have cports_of := okports_of (P := P) (w := w) (base := base) T
  exact calF (k := 1) T.h_ports_in scports_in rfl rfl (fun f cdv A outer s H E hr =>
      (rss_cons (rs_set (i := 1) scports_in.nd rfl (Or.inl rfl) (re_ct (c_list true) T.n_list b_list (ra_cons (re_ix (re_var 0) re_int) ra_nil)))
      (rss_cons (rs_for rfl (ri_any (re_ix (re_var 0) re_int)) (rg_name (i := 2) scports_in.nd rfl (Or.inl rfl)) (rss_one (rs_expr (re_mt PySem.F.slot_list_extend PySem.F.type_list_extend m_extend (re_var 1) (ra_cons (re_c cports_of (hr.mono (by decide)) (ra_cons (re_var 2) ra_nil)) ra_nil)))))
      (rss_one (rs_ret (re_ct c_tuple T.n_tuple b_tuple (ra_cons (re_sortset false rfl T.n_sorted T.n_set (ra_cons (re_var 1) ra_nil)) ra_nil)))))))
end
end Ln
namespace Ln
open PySem L2 PF
noncomputable def Bis_thing : FS :=
    (fRet (fCall 2 Fis_below (fCons (fVar 0) (fCons (fVar 1) fNil))))
noncomputable def Fis_thing : FF := bodyF 2 Bis_thing
theorem eis_thing {a0 a1 : D} {s : S} : Fis_thing [a0, a1] s = (Bis_thing [some a0, some a1] s).bind kBody := rfl
theorem scis_thing : FnScope ["things", "thing"] ["things", "thing"] (defScope s_is_thing) := ⟨rfl, rfl, rfl, by decide +kernel, rfl, by decide +kernel, by decide +kernel⟩
section
variable {P : Program} {w : World} {K : PySem.W.Frag} {mg : Str → Option Value} {base : Heap}
theorem okis_thing (T : Txt0 K mg) : CalF P w K mg base "is_thing" 3 2 Fis_thing := by
  have cis_below := okis_below (P := P) (w := w) (base := base) T
  exact calF (k := 2) T.h_is_thing scis_thing rfl rfl (fun f cdv A outer s H E hr =>
      (rss_one (rs_ret (re_c cis_below (hr.mono (by decide)) (ra_cons (re_var 0) (ra_cons (re_var 1) ra_nil))))))
end
end Ln
namespace Ln
open PySem L2 PF
noncomputable def Bis_held : FS :=
    (fRet (fOr (fOp gIs (fVar 1) (fC (.da (.none)))) (fCall 2 Fis_thing (fCons (fVar 0) (fCons (fVar 1) fNil)))))
noncomputable def Fis_held : FF := bodyF 2 Bis_held
theorem eis_held {a0 a1 : D} {s : S} : Fis_held [a0, a1] s = (Bis_held [some a0, some a1] s).bind kBody := rfl
theorem scis_held : FnScope ["things", "thing"] ["things", "thing"] (defScope s_is_held) := ⟨rfl, rfl, rfl, by decide +kernel, rfl, by decide +kernel, by decide +kernel⟩
section
variable {P : Program} {w : World} {K : PySem.W.Frag} {mg : Str → Option Value} {base : Heap}
theorem okis_held (T : Txt0 K mg) : CalF P w K mg base "is_held" 4 2 Fis_held := by
  have cis_thing := okis_thing (P := P) (w := w) (base := base) T
  exact calF (k := 3) T.h_is_held scis_held rfl rfl (fun f cdv A outer s H E hr =>
      (rss_one (rs_ret (re_or (re_cmp o_is (re_var 1) re_non) (re_one (re_c cis_thing (hr.mono (by decide)) (ra_cons (re_var 0) (ra_cons (re_var 1) ra_nil))))))))
end
end Ln
namespace Ln
open PySem L2 PF
noncomputable def Bholding_parts : FS :=
    (fRet (fLc false [] 1 (fIt (fOp gIx (fVar 0) (fC (.da (.int 2))))) (.nm 0) (fTest (fOp gIn (fOp gIx (fVar 0) (fC (.da (.int 0)))) (fC (.con (List.map PyData.str ["place", "last"]))))) (fVar 0)))
noncomputable def Fholding_parts : FF := bodyF 1 Bholding_parts
theorem eholding_parts {a0 : D} {s : S} : Fholding_parts [a0] s = (Bholding_parts [some a0] s).bind kBody := rfl
theorem scholding_parts : FnScope ["flat"] ["flat"] (defScope s_holding_parts) := ⟨rfl, rfl, rfl, by decide +kernel, rfl, by decide +kernel, by decide +kernel⟩
section
variable {P : Program} {w : World} {K : PySem.W.Frag} {mg : Str → Option Value} {base : Heap}
theorem okholding_parts (T : Txt0 K mg) : CalF P w K mg base "holding_parts" 1 1 Fholding_parts := by
  exact calF (k := 0) T.h_holding_parts scholding_parts rfl rfl (fun f cdv A outer s H E hr =>
      (rss_one (rs_ret (re_lc false (own := ["part"]) (caps := []) (js := []) rfl rfl rfl rfl rfl (trivial) rfl (ri_any (re_ix (re_var 0) re_int)) (fun _ _ _ _ => (rg_name (i := 0) (show (["part"] : List Str).Nodup by decide +kernel) rfl (Or.inl rfl) (Or.inr rfl))) (fun _ _ _ _ => (rifs_one (rt_cmp (o_in (u65 hr)) (re_ix (re_var 0) re_int) (re_conS ["place", "last"] T.c_HOLDING)))) (fun _ _ _ _ => (re_var 0))))))
end
end Ln
namespace Ln
open PySem L2 PF
noncomputable def Bfirst_stand : FS :=
    (fRet (fCB gTuple (fCons (fLc false [] 1 (fIt (fCall 1 Fholding_parts (fCons (fVar 0) fNil))) (.nm 0) fYes (fOp gIx (fVar 0) (fC (.da (.int 3))))) fNil)))
noncomputable def Ffirst_stand : FF := bodyF 1 Bfirst_stand
theorem efirst_stand {a0 : D} {s : S} : Ffirst_stand [a0] s = (Bfirst_stand [some a0] s).bind kBody := rfl
theorem scfirst_stand : FnScope ["flat"] ["flat"] (defScope s_first_stand) := ⟨rfl, rfl, rfl, by decide +kernel, rfl, by decide +kernel, by decide +kernel⟩
section
variable {P : Program} {w : World} {K : PySem.W.Frag} {mg : Str → Option Value} {base : Heap}
theorem okfirst_stand (T : Txt0 K mg) : CalF P w K mg base "first_stand" 2 1 Ffirst_stand := by
  have cholding_parts := okholding_parts (P := P) (w := w) (base := base) T
  exact calF (k := 1) T.h_first_stand scfirst_stand rfl rfl (fun f cdv A outer s H E hr =>
      (rss_one (rs_ret (re_ct c_tuple T.n_tuple b_tuple (ra_cons (re_lc false (own := ["part"]) (caps := []) (js := []) rfl rfl rfl rfl rfl (trivial) rfl (ri_any (re_c cholding_parts (hr.mono (by decide)) (ra_cons (re_var 0) ra_nil))) (fun _ _ _ _ => (rg_name (i := 0) (show (["part"] : List Str).Nodup by decide +kernel) rfl (Or.inl rfl) (Or.inr rfl))) (fun _ _ _ _ => rifs_nil) (fun _ _ _ _ => (re_ix (re_var 0) re_int))) ra_nil)))))
end
end Ln
namespace Ln
open PySem L2 PF
noncomputable def Bis_stand : FS :=
    (fSeq (fIfS (fOrT (fNotT (fTru (fCB gIsi (fCons (fVar 1) (fCons (fC (.ty "tuple")) fNil))))) (fTest (fOp gNe (fCB gLen (fCons (fVar 1) fNil)) (fCB gLen (fCons (fCall 1 Fholding_parts (fCons (fVar 0) fNil)) fNil))))) (fRet (fC (.da (.bool false)))) fNext)
    (fRet (fCB gAll (fCons (fLc false [0] 1 (fIt (fVar 1)) (.nm 0) fYes (fCall 2 Fis_held (fCons (fOp gIx (fVar 1) (fC (.da (.int 0)))) (fCons (fVar 0) fNil)))) fNil))))
noncomputable def Fis_stand : FF := bodyF 2 Bis_stand
theorem eis_stand {a0 a1 : D} {s : S} : Fis_stand [a0, a1] s = (Bis_stand [some a0, some a1] s).bind kBody := rfl
theorem scis_stand : FnScope ["flat", "thing"] ["flat", "thing"] (defScope s_is_stand) := ⟨rfl, rfl, rfl, by decide +kernel, rfl, by decide +kernel, by decide +kernel⟩
section
variable {P : Program} {w : World} {K : PySem.W.Frag} {mg : Str → Option Value} {base : Heap}
theorem okis_stand (T : Txt0 K mg) : CalF P w K mg base "is_stand" 5 2 Fis_stand := by
  have cis_held := okis_held (P := P) (w := w) (base := base) T
  have cholding_parts := okholding_parts (P := P) (w := w) (base := base) T
  exact calF (k := 4) T.h_is_stand scis_stand rfl rfl (fun f cdv A outer s H E hr =>
      (rss_cons (rs_if (RW.rt (rw_or (rt_not (rt_tru (re_cb c_isi T.n_isinstance b_isinstance (ra_cons (re_var 1) (ra_cons (re_bltn T.n_tuple b_tuple) ra_nil))))) (rw_or1 (rt_cmp (o_ne (u64 hr)) (re_cb c_len T.n_len b_len (ra_cons (re_var 1) ra_nil)) (re_cb c_len T.n_len b_len (ra_cons (re_c cholding_parts (hr.mono (by decide)) (ra_cons (re_var 0) ra_nil)) ra_nil)))))) (rss_one (rs_ret re_bl)) rss_nil)
      (rss_one (rs_ret (re_cb (c_all rfl) T.n_all b_all (ra_cons (re_lc false (own := ["held"]) (caps := ["flat"]) (js := [0]) rfl rfl rfl rfl rfl (⟨⟨rfl, Or.inr (Or.inl rfl), rfl, rfl⟩, trivial⟩) rfl (ri_any (re_var 1)) (fun _ _ _ _ => (rg_name (i := 0) (show (["held", "flat"] : List Str).Nodup by decide +kernel) rfl (Or.inl rfl) (Or.inr rfl))) (fun _ _ _ _ => rifs_nil) (fun _ _ _ _ => (re_c cis_held (hr.mono (by decide)) (ra_cons (re_ix (re_var 1) re_int) (ra_cons (re_var 0) ra_nil))))) ra_nil))))))
end
end Ln
namespace Ln
open PySem L2 PF
noncomputable def Bis_passing : FS :=
    (fSeq (fIfS (fOrT (fNotT (fTru (fCB gIsi (fCons (fVar 2) (fCons (fC (.ty "tuple")) fNil))))) (fTest (fOp gNe (fCB gLen (fCons (fVar 2) fNil)) (fC (.da (.int 2)))))) (fRet (fC (.da (.bool false)))) fNext)
    (fRet (fAnd (fOp gIn (fOp gIx (fVar 2) (fC (.da (.int 0)))) (fVar 1)) (fCall 2 Fis_thing (fCons (fVar 0) (fCons (fOp gIx (fVar 2) (fC (.da (.int 1)))) fNil))))))
noncomputable def Fis_passing : FF := bodyF 3 Bis_passing
theorem eis_passing {a0 a1 a2 : D} {s : S} : Fis_passing [a0, a1, a2] s = (Bis_passing [some a0, some a1, some a2] s).bind kBody := rfl
theorem scis_passing : FnScope ["things", "ports", "pair"] ["things", "ports", "pair"] (defScope s_is_passing) := ⟨rfl, rfl, rfl, by decide +kernel, rfl, by decide +kernel, by decide +kernel⟩
section
variable {P : Program} {w : World} {K : PySem.W.Frag} {mg : Str → Option Value} {base : Heap}
theorem okis_passing (T : Txt0 K mg) : CalF P w K mg base "is_passing" 4 3 Fis_passing := by
  have cis_thing := okis_thing (P := P) (w := w) (base := base) T
  exact calF (k := 3) T.h_is_passing scis_passing rfl rfl (fun f cdv A outer s H E hr =>
      (rss_cons (rs_if (RW.rt (rw_or (rt_not (rt_tru (re_cb c_isi T.n_isinstance b_isinstance (ra_cons (re_var 2) (ra_cons (re_bltn T.n_tuple b_tuple) ra_nil))))) (rw_or1 (rt_cmp (o_ne (u64 hr)) (re_cb c_len T.n_len b_len (ra_cons (re_var 2) ra_nil)) re_int)))) (rss_one (rs_ret re_bl)) rss_nil)
      (rss_one (rs_ret (re_and (re_cmp (o_in (u65 hr)) (re_ix (re_var 2) re_int) (re_var 1)) (re_one (re_c cis_thing (hr.mono (by decide)) (ra_cons (re_var 0) (ra_cons (re_ix (re_var 2) re_int) ra_nil)))))))))
end
end Ln
namespace Ln
open PySem L2 PF
noncomputable def Bis_moment_of : FS :=
    (fSeq (fIfS (fNotT (fTru (fCB gIsi (fCons (fVar 2) (fCons (fC (.ty "tuple")) fNil))))) (fRet (fC (.da (.bool false)))) fNext)
    (fSeq (fSet 3 (fC (.da (.str ""))))
    (fSeq (fFor (fIt (fVar 2)) (.nm 4) (fSeq (fIfS (fOrT (fNotT (fTru (fCall 3 Fis_passing (fCons (fVar 0) (fCons (fVar 1) (fCons (fVar 4) fNil)))))) (fTest (fOp gLeT (fOp gIx (fVar 4) (fC (.da (.int 0)))) (fVar 3)))) (fRet (fC (.da (.bool false)))) fNext)
    (fSet 3 (fOp gIx (fVar 4) (fC (.da (.int 0)))))))
    (fRet (fC (.da (.bool true)))))))
noncomputable def Fis_moment_of : FF := bodyF 5 Bis_moment_of
theorem eis_moment_of {a0 a1 a2 : D} {s : S} : Fis_moment_of [a0, a1, a2] s = (Bis_moment_of [some a0, some a1, some a2, none, none] s).bind kBody := rfl
theorem scis_moment_of : FnScope ["things", "ports", "thing", "ahead", "pair"] ["things", "ports", "thing"] (defScope s_is_moment_of) := ⟨rfl, rfl, rfl, by decide +kernel, rfl, by decide +kernel, by decide +kernel⟩
section
variable {P : Program} {w : World} {K : PySem.W.Frag} {mg : Str → Option Value} {base : Heap}
theorem okis_moment_of (T : Txt0 K mg) : CalF P w K mg base "is_moment_of" 5 3 Fis_moment_of := by
  have cis_passing := okis_passing (P := P) (w := w) (base := base) T
  exact calF (k := 4) T.h_is_moment_of scis_moment_of rfl rfl (fun f cdv A outer s H E hr =>
      (rss_cons (rs_if (rt_not (rt_tru (re_cb c_isi T.n_isinstance b_isinstance (ra_cons (re_var 2) (ra_cons (re_bltn T.n_tuple b_tuple) ra_nil))))) (rss_one (rs_ret re_bl)) rss_nil)
      (rss_cons (rs_set (i := 3) scis_moment_of.nd rfl (Or.inl rfl) re_str)
      (rss_cons (rs_for rfl (ri_any (re_var 2)) (rg_name (i := 4) scis_moment_of.nd rfl (Or.inl rfl)) (rss_cons (rs_if (RW.rt (rw_or (rt_not (rt_tru (re_c cis_passing (hr.mono (by decide)) (ra_cons (re_var 0) (ra_cons (re_var 1) (ra_cons (re_var 4) ra_nil)))))) (rw_or1 (rt_cmp o_leT (re_ix (re_var 4) re_int) (re_var 3))))) (rss_one (rs_ret re_bl)) rss_nil)
      (rss_one (rs_set (i := 3) scis_moment_of.nd rfl (Or.inl rfl) (re_ix (re_var 4) re_int)))))
      (rss_one (rs_ret re_bl))))))
end
end Ln
namespace Ln
open PySem L2 PF
noncomputable def Bis_moment : FS :=
    (fRet (fCall 3 Fis_moment_of (fCons (fOp gIx (fVar 0) (fC (.da (.int 0)))) (fCons (fCall 1 Fports_in (fCons (fVar 0) fNil)) (fCons (fVar 1) fNil)))))
noncomputable def Fis_moment : FF := bodyF 2 Bis_moment
theorem eis_moment {a0 a1 : D} {s : S} : Fis_moment [a0, a1] s = (Bis_moment [some a0, some a1] s).bind kBody := rfl
theorem scis_moment : FnScope ["flat", "thing"] ["flat", "thing"] (defScope s_is_moment) := ⟨rfl, rfl, rfl, by decide +kernel, rfl, by decide +kernel, by decide +kernel⟩
section
variable {P : Program} {w : World} {K : PySem.W.Frag} {mg : Str → Option Value} {base : Heap}
theorem okis_moment (T : Txt0 K mg) : CalF P w K mg base "is_moment" 6 2 Fis_moment := by
  have cports_in := okports_in (P := P) (w := w) (base := base) T
  have cis_moment_of := okis_moment_of (P := P) (w := w) (base := base) T
  exact calF (k := 5) T.h_is_moment scis_moment rfl rfl (fun f cdv A outer s H E hr =>
      (rss_one (rs_ret (re_c cis_moment_of (hr.mono (by decide)) (ra_cons (re_ix (re_var 0) re_int) (ra_cons (re_c cports_in (hr.mono (by decide)) (ra_cons (re_var 0) ra_nil)) (ra_cons (re_var 1) ra_nil)))))))
end
end Ln
namespace Ln
open PySem L2 PF
noncomputable def B_law_feed : FS :=
    (fRet (fLst true (fCons (fCB (gList false) (fCons (fSl false (fVar 0) fNo (fSome (fC (.da (.int 63))))) fNil)) (fCons (fC (.da (.int 0))) (fCons (fC (.da (.int 0))) (fCons (fC (.da (.int 0))) fNil))))))
noncomputable def F_law_feed : FF := bodyF 1 B_law_feed
theorem e_law_feed {a0 : D} {s : S} : F_law_feed [a0] s = (B_law_feed [some a0] s).bind kBody := rfl
theorem sc_law_feed : FnScope ["_law_script"] ["_law_script"] (defScope s__law_feed) := ⟨rfl, rfl, rfl, by decide +kernel, rfl, by decide +kernel, by decide +kernel⟩
section
variable {P : Program} {w : World} {K : PySem.W.Frag} {mg : Str → Option Value} {base : Heap}
theorem ok_law_feed (T : Txt0 K mg) : CalF P w K mg base "_law_feed" 1 1 F_law_feed := by
  exact calF (k := 0) T.h__law_feed sc_law_feed rfl rfl (fun f cdv A outer s H E hr =>
      (rss_one (rs_ret (re_lst true (ra_cons (re_ct (c_list false) T.n_list b_list (ra_cons (re_slice false (re_var 0) ro_none (ro_some re_int)) ra_nil)) (ra_cons re_int (ra_cons re_int (ra_cons re_int ra_nil))))))))
end
end Ln
namespace Ln
open PySem L2 PF
noncomputable def B_law_draw : FS :=
    (fSeq (fSetIt (fOp (gAdd false) (fOp gIx (fVar 0) (fC (.da (.int 3)))) (fC (.da (.int 1)))) (fVar 0) (fC (.da (.int 3))))
    (fSeq (fIfS (fTest (fOp gGt (fOp gIx (fVar 0) (fC (.da (.int 2)))) (fC (.da (.int 0))))) (fSeq (fSet 2 (fOp gMod (fOp gIx (fVar 0) (fC (.da (.int 2)))) (fVar 1)))
    (fSeq (fSetIt (fOp gDiv (fOp gIx (fVar 0) (fC (.da (.int 2)))) (fVar 1)) (fVar 0) (fC (.da (.int 2))))
    (fRet (fVar 2)))) fNext)
    (fSeq (fSet 3 (fC (.da (.int 5))))
    (fSeq (fIfS (fTest (fOp gNe (fOp gIx (fVar 0) (fC (.da (.int 0)))) (fLst false fNil))) (fSet 3 (fOp gIx (fOp gIx (fVar 0) (fC (.da (.int 0)))) (fOp gMod (fOp gIx (fVar 0) (fC (.da (.int 1)))) (fCB gLen (fCons (fOp gIx (fVar 0) (fC (.da (.int 0)))) fNil))))) fNext)
    (fSeq (fSetIt (fOp (gAdd false) (fOp gIx (fVar 0) (fC (.da (.int 1)))) (fC (.da (.int 1)))) (fVar 0) (fC (.da (.int 1))))
    (fSeq (fIfS (fAndT (fTest (fOp gGe (fVar 3) (fOp gPow (fC (.da (.int 10))) (fC (.da (.int 18)))))) (fTest (fOp gLe (fOp gIx (fVar 0) (fC (.da (.int 1)))) (fCB gLen (fCons (fOp gIx (fVar 0) (fC (.da (.int 0)))) fNil))))) (fSeq (fSetIt (fOp gDiv (fVar 3) (fVar 1)) (fVar 0) (fC (.da (.int 2))))
    (fRet (fOp gMod (fVar 3) (fVar 1)))) fNext)
    (fSeq (fSet 4 (fOp gMod (fOp gMul (fOp (gAdd false) (fOp gMod (fVar 3) (fC (.da (.int 998244353)))) (fOp gMul (fC (.da (.int 5003))) (fOp gIx (fVar 0) (fC (.da (.int 3)))))) (fC (.da (.int 69621)))) (fC (.da (.int 2147483629)))))
    (fSeq (fSet 4 (fOp gMod (fOp gMul (fOp (gAdd false) (fOp gDiv (fVar 4) (fC (.da (.int 13)))) (fOp gMul (fOp gMul (fC (.da (.int 7919))) (fOp gIx (fVar 0) (fC (.da (.int 3))))) (fOp gIx (fVar 0) (fC (.da (.int 3)))))) (fC (.da (.int 48271)))) (fC (.da (.int 2147483587)))))
    (fRet (fOp gMod (fOp gDiv (fVar 4) (fC (.da (.int 64)))) (fVar 1)))))))))))
noncomputable def F_law_draw : FF := bodyF 5 B_law_draw
theorem e_law_draw {a0 a1 : D} {s : S} : F_law_draw [a0, a1] s = (B_law_draw [some a0, some a1, none, none, none] s).bind kBody := rfl
theorem sc_law_draw : FnScope ["_law_feed_here", "_law_many", "_law_found", "_law_cell", "_law_mixed"] ["_law_feed_here", "_law_many"] (defScope s__law_draw) := ⟨rfl, rfl, rfl, by decide +kernel, rfl, by decide +kernel, by decide +kernel⟩
section
variable {P : Program} {w : World} {K : PySem.W.Frag} {mg : Str → Option Value} {base : Heap}
theorem ok_law_draw (T : Txt0 K mg) : CalF P w K mg base "_law_draw" 1 2 F_law_draw := by
  exact calF (k := 0) T.h__law_draw sc_law_draw rfl rfl (fun f cdv A outer s H E hr =>
      (rss_cons (rs_sub (re_op (o_add false) (re_ix (re_var 0) re_int) re_int) (re_var 0) re_int)
      (rss_cons (rs_if (rt_cmp o_gt (re_ix (re_var 0) re_int) re_int) (rss_cons (rs_set (i := 2) sc_law_draw.nd rfl (Or.inl rfl) (re_op o_mod (re_ix (re_var 0) re_int) (re_var 1)))
      (rss_cons (rs_sub (re_op o_div (re_ix (re_var 0) re_int) (re_var 1)) (re_var 0) re_int)
      (rss_one (rs_ret (re_var 2))))) rss_nil)
      (rss_cons (rs_set (i := 3) sc_law_draw.nd rfl (Or.inl rfl) re_int)
      (rss_cons (rs_if (rt_cmp (o_ne (u64 hr)) (re_ix (re_var 0) re_int) (re_lst false ra_nil)) (rss_one (rs_set (i := 3) sc_law_draw.nd rfl (Or.inl rfl) (re_ix (re_ix (re_var 0) re_int) (re_op o_mod (re_ix (re_var 0) re_int) (re_cb c_len T.n_len b_len (ra_cons (re_ix (re_var 0) re_int) ra_nil)))))) rss_nil)
      (rss_cons (rs_sub (re_op (o_add false) (re_ix (re_var 0) re_int) re_int) (re_var 0) re_int)
      (rss_cons (rs_if (RW.rt (rw_and (rt_cmp o_ge (re_var 3) (re_op o_pow re_int re_int)) (rw_and1 (rt_cmp o_le (re_ix (re_var 0) re_int) (re_cb c_len T.n_len b_len (ra_cons (re_ix (re_var 0) re_int) ra_nil)))))) (rss_cons (rs_sub (re_op o_div (re_var 3) (re_var 1)) (re_var 0) re_int)
      (rss_one (rs_ret (re_op o_mod (re_var 3) (re_var 1))))) rss_nil)
      (rss_cons (rs_set (i := 4) sc_law_draw.nd rfl (Or.inl rfl) (re_op o_mod (re_op o_mul (re_op (o_add false) (re_op o_mod (re_var 3) re_int) (re_op o_mul re_int (re_ix (re_var 0) re_int))) re_int) re_int))
      (rss_cons (rs_set (i := 4) sc_law_draw.nd rfl (Or.inl rfl) (re_op o_mod (re_op o_mul (re_op (o_add false) (re_op o_div (re_var 4) re_int) (re_op o_mul (re_op o_mul re_int (re_ix (re_var 0) re_int)) (re_ix (re_var 0) re_int))) re_int) re_int))
      (rss_one (rs_ret (re_op o_mod (re_op o_div (re_var 4) re_int) (re_var 1)))))))))))))
end
end Ln
namespace Ln
open PySem L2 PF
noncomputable def B_law_shuffled : FS :=
    (fSeq (fSet 2 (fCB (gList true) (fCons (fVar 1) fNil)))
    (fSeq (fSet 3 (fLst true fNil))
    (fSeq (fFor (fRng (fCons (fCB gLen (fCons (fVar 2) fNil)) fNil)) (.nm 4) (fDrop (fMt gAppend (fVar 3) (fCons (fMt gPopAt (fVar 2) (fCons (fCall 2 F_law_draw (fCons (fVar 0) (fCons (fCB gLen (fCons (fVar 2) fNil)) fNil))) fNil)) fNil))))
    (fRet (fFrz (fVar 3))))))
noncomputable def F_law_shuffled : FF := bodyF 5 B_law_shuffled
theorem e_law_shuffled {a0 a1 : D} {s : S} : F_law_shuffled [a0, a1] s = (B_law_shuffled [some a0, some a1, none, none, none] s).bind kBody := rfl
theorem sc_law_shuffled : FnScope ["_law_feed_here", "_law_some", "_law_left", "_law_found", "_law_k"] ["_law_feed_here", "_law_some"] (defScope s__law_shuffled) := ⟨rfl, rfl, rfl, by decide +kernel, rfl, by decide +kernel, by decide +kernel⟩
section
variable {P : Program} {w : World} {K : PySem.W.Frag} {mg : Str → Option Value} {base : Heap}
theorem ok_law_shuffled (T : Txt0 K mg) : CalF P w K mg base "_law_shuffled" 2 2 F_law_shuffled := by
  have c_law_draw := ok_law_draw (P := P) (w := w) (base := base) T
  exact calF (k := 1) T.h__law_shuffled sc_law_shuffled rfl rfl (fun f cdv A outer s H E hr =>
      (rss_cons (rs_set (i := 2) sc_law_shuffled.nd rfl (Or.inl rfl) (re_ct (c_list true) T.n_list b_list (ra_cons (re_var 1) ra_nil)))
      (rss_cons (rs_set (i := 3) sc_law_shuffled.nd rfl (Or.inl rfl) (re_lst true ra_nil))
      (rss_cons (rs_for rfl (ri_rng T.n_range (ra_cons (re_cb c_len T.n_len b_len (ra_cons (re_var 2) ra_nil)) ra_nil)) (rg_name (i := 4) sc_law_shuffled.nd rfl (Or.inl rfl)) (rss_one (rs_expr (re_mt PySem.F.slot_list_append PySem.F.type_list_append m_append (re_var 3) (ra_cons (re_mt PySem.F.slot_list_pop PySem.F.type_list_pop m_popAt (re_var 2) (ra_cons (re_c c_law_draw (hr.mono (by decide)) (ra_cons (re_var 0) (ra_cons (re_cb c_len T.n_len b_len (ra_cons (re_var 2) ra_nil)) ra_nil))) ra_nil)) ra_nil)))))
      (rss_one (rs_ret (re_frz (re_var 3))))))))
end
end Ln
namespace Ln
open PySem L2 PF
noncomputable def B_law_ports : FS :=
    (fSeq (fSet 2 (fLst true (fCons (fLst false (fVs (List.map D.da [.str "a", .str "b", .str "c", .str "d", .str "e", .str "f", .str "g", .str "h"]))) (fCons (fLst false (fVs (List.map D.da [.str "net", .str "end", .str "within", .str "place", .str "last", .str "to", .str "a", .str "table"]))) fNil))))
    (fSeq (fDrop (fMt gAppend (fVar 2) (fCons (fLst false (fVs (List.map D.da [.str "a", .str "ab", .str "abc", .str "abcd", .str "b", .str "ba", .str "abcdefgh", .str "abcdefgi"]))) fNil)))
    (fSeq (fDrop (fMt gAppend (fVar 2) (fCons (fLst false (fVs (List.map D.da [.str "zzzzzzzz", .str "z", .str "zz", .str "y", .str "only", .str "onlya", .str "copy", .str "aa"]))) fNil)))
    (fSeq (fSet 3 (fOp gIx (fVar 2) (fCall 2 F_law_draw (fCons (fVar 0) (fCons (fC (.da (.int 4))) fNil)))))
    (fSeq (fSet 4 (fCall 2 F_law_draw (fCons (fVar 0) (fCons (fC (.da (.int 8))) fNil))))
    (fRet (fSl false (fOp (gAdd false) (fSl false (fVar 3) (fSome (fVar 4)) fNo) (fSl false (fVar 3) fNo (fSome (fVar 4)))) fNo (fSome (fVar 1)))))))))
noncomputable def F_law_ports : FF := bodyF 5 B_law_ports
theorem e_law_ports {a0 a1 : D} {s : S} : F_law_ports [a0, a1] s = (B_law_ports [some a0, some a1, none, none, none] s).bind kBody := rfl
theorem sc_law_ports : FnScope ["_law_feed_here", "_law_many", "_law_pools", "_law_pool", "_law_turn"] ["_law_feed_here", "_law_many"] (defScope s__law_ports) := ⟨rfl, rfl, rfl, by decide +kernel, rfl, by decide +kernel, by decide +kernel⟩
section
variable {P : Program} {w : World} {K : PySem.W.Frag} {mg : Str → Option Value} {base : Heap}
theorem ok_law_ports (T : Txt0 K mg) : CalF P w K mg base "_law_ports" 2 2 F_law_ports := by
  have c_law_draw := ok_law_draw (P := P) (w := w) (base := base) T
  exact calF (k := 1) T.h__law_ports sc_law_ports rfl rfl (fun f cdv A outer s H E hr =>
      (rss_cons (rs_set (i := 2) sc_law_ports.nd rfl (Or.inl rfl) (re_lst true (ra_cons (re_lst false (ra_consts rfl)) (ra_cons (re_lst false (ra_consts rfl)) ra_nil))))
      (rss_cons (rs_expr (re_mt PySem.F.slot_list_append PySem.F.type_list_append m_append (re_var 2) (ra_cons (re_lst false (ra_consts rfl)) ra_nil)))
      (rss_cons (rs_expr (re_mt PySem.F.slot_list_append PySem.F.type_list_append m_append (re_var 2) (ra_cons (re_lst false (ra_consts rfl)) ra_nil)))
      (rss_cons (rs_set (i := 3) sc_law_ports.nd rfl (Or.inl rfl) (re_ix (re_var 2) (re_c c_law_draw (hr.mono (by decide)) (ra_cons (re_var 0) (ra_cons re_int ra_nil)))))
      (rss_cons (rs_set (i := 4) sc_law_ports.nd rfl (Or.inl rfl) (re_c c_law_draw (hr.mono (by decide)) (ra_cons (re_var 0) (ra_cons re_int ra_nil))))
      (rss_one (rs_ret (re_slice false (re_op (o_add false) (re_slice false (re_var 3) (ro_some (re_var 4)) ro_none) (re_slice false (re_var 3) ro_none (ro_some (re_var 4)))) ro_none (ro_some (re_var 1)))))))))))
end
end Ln
namespace Ln
open PySem L2 PF
noncomputable def B_law_part : FS :=
    (fSeq (fSet 3 (fCall 2 F_law_shuffled (fCons (fVar 0) (fCons (fVar 2) fNil))))
    (fSeq (fSet 4 (fOp gIx (fLst false (fVs (List.map D.da [.str "both", .str "loose", .str "place", .str "last", .str "drain", .str "either", .str "only", .str "copy", .str "merge", .str "place"]))) (fCall 2 F_law_draw (fCons (fVar 0) (fCons (fC (.da (.int 10))) fNil)))))
    (fSeq (fIfS (fTest (fOp gIn (fVar 4) (fTup (fVs (List.map D.da [.str "copy", .str "merge"]))))) (fSeq (fSet 5 (fCB gTuple (fCons (fSl false (fVar 3) (fSome (fC (.da (.int 1)))) (fSome (fOp (gAdd false) (fC (.da (.int 2))) (fCall 2 F_law_draw (fCons (fVar 0) (fCons (fCB gMin (fCons (fC (.da (.int 4))) (fCons (fOp gSub (fCB gLen (fCons (fVar 3) fNil)) (fC (.da (.int 1)))) fNil))) fNil)))))) fNil)))
    (fRet (fIf (fTest (fOp gEq (fVar 4) (fC (.da (.str "copy"))))) (fTup (fCons (fVar 4) (fCons (fOp gIx (fVar 3) (fC (.da (.int 0)))) (fCons (fVar 5) fNil)))) (fTup (fCons (fVar 4) (fCons (fVar 5) (fCons (fOp gIx (fVar 3) (fC (.da (.int 0)))) fNil))))))) fNext)
    (fSeq (fIfS (fTest (fOp gIn (fVar 4) (fTup (fVs (List.map D.da [.str "place", .str "last"]))))) (fRet (fTup (fCons (fVar 4) (fCons (fOp gIx (fVar 3) (fC (.da (.int 0)))) (fCons (fOp gIx (fVar 3) (fC (.da (.int 1)))) (fCons (fOp gIx (fLst false (fCons (fC (.da (.none))) (fCons (fC (.da (.none))) (fCons (fC (.da (.int 0))) (fCons (fOp gSub (fVar 1) (fC (.da (.int 1)))) fNil))))) (fCall 2 F_law_draw (fCons (fVar 0) (fCons (fC (.da (.int 4))) fNil)))) fNil)))))) fNext)
    (fSeq (fIfS (fTest (fOp gEq (fVar 4) (fC (.da (.str "only"))))) (fRet (fTup (fCons (fVar 4) (fCons (fOp gIx (fVar 3) (fC (.da (.int 0)))) (fCons (fOp gIx (fVar 3) (fC (.da (.int 1)))) (fCons (fCB gTuple (fCons (fLc false [0] 1 (fRng (fCons (fVar 1) fNil)) (.nm 0) (fTest (fOp gGt (fCall 2 F_law_draw (fCons (fVar 1) (fCons (fC (.da (.int 3))) fNil))) (fC (.da (.int 0))))) (fVar 0)) fNil)) fNil)))))) fNext)
    (fRet (fTup (fCons (fVar 4) (fCons (fOp gIx (fVar 3) (fC (.da (.int 0)))) (fCons (fOp gIx (fVar 3) (fC (.da (.int 1)))) fNil))))))))))
noncomputable def F_law_part : FF := bodyF 6 B_law_part
theorem e_law_part {a0 a1 a2 : D} {s : S} : F_law_part [a0, a1, a2] s = (B_law_part [some a0, some a1, some a2, none, none, none] s).bind kBody := rfl
theorem sc_law_part : FnScope ["_law_feed_here", "_law_things", "_law_ports_here", "_law_some", "_law_word", "_law_many"] ["_law_feed_here", "_law_things", "_law_ports_here"] (defScope s__law_part) := ⟨rfl, rfl, rfl, by decide +kernel, rfl, by decide +kernel, by decide +kernel⟩
section
variable {P : Program} {w : World} {K : PySem.W.Frag} {mg : Str → Option Value} {base : Heap}
theorem ok_law_part (T : Txt0 K mg) : CalF P w K mg base "_law_part" 3 3 F_law_part := by
  have c_law_draw := ok_law_draw (P := P) (w := w) (base := base) T
  have c_law_shuffled := ok_law_shuffled (P := P) (w := w) (base := base) T
  exact calF (k := 2) T.h__law_part sc_law_part rfl rfl (fun f cdv A outer s H E hr =>
      (rss_cons (rs_set (i := 3) sc_law_part.nd rfl (Or.inl rfl) (re_c c_law_shuffled (hr.mono (by decide)) (ra_cons (re_var 0) (ra_cons (re_var 2) ra_nil))))
      (rss_cons (rs_set (i := 4) sc_law_part.nd rfl (Or.inl rfl) (re_ix (re_lst false (ra_consts rfl)) (re_c c_law_draw (hr.mono (by decide)) (ra_cons (re_var 0) (ra_cons re_int ra_nil)))))
      (rss_cons (rs_if (rt_cmp (o_in (u65 hr)) (re_var 4) (re_tup (ra_consts rfl))) (rss_cons (rs_set (i := 5) sc_law_part.nd rfl (Or.inl rfl) (re_ct c_tuple T.n_tuple b_tuple (ra_cons (re_slice false (re_var 3) (ro_some re_int) (ro_some (re_op (o_add false) re_int (re_c c_law_draw (hr.mono (by decide)) (ra_cons (re_var 0) (ra_cons (re_cb (c_min rfl) T.n_min b_min (ra_cons re_int (ra_cons (re_op o_sub (re_cb c_len T.n_len b_len (ra_cons (re_var 3) ra_nil)) re_int) ra_nil))) ra_nil)))))) ra_nil)))
      (rss_one (rs_ret (re_if (rt_cmp (o_eq (u64 hr)) (re_var 4) re_str) (re_tup (ra_cons (re_var 4) (ra_cons (re_ix (re_var 3) re_int) (ra_cons (re_var 5) ra_nil)))) (re_tup (ra_cons (re_var 4) (ra_cons (re_var 5) (ra_cons (re_ix (re_var 3) re_int) ra_nil)))))))) rss_nil)
      (rss_cons (rs_if (rt_cmp (o_in (u65 hr)) (re_var 4) (re_tup (ra_consts rfl))) (rss_one (rs_ret (re_tup (ra_cons (re_var 4) (ra_cons (re_ix (re_var 3) re_int) (ra_cons (re_ix (re_var 3) re_int) (ra_cons (re_ix (re_lst false (ra_cons re_non (ra_cons re_non (ra_cons re_int (ra_cons (re_op o_sub (re_var 1) re_int) ra_nil))))) (re_c c_law_draw (hr.mono (by decide)) (ra_cons (re_var 0) (ra_cons re_int ra_nil)))) ra_nil))))))) rss_nil)
      (rss_cons (rs_if (rt_cmp (o_eq (u64 hr)) (re_var 4) re_str) (rss_one (rs_ret (re_tup (ra_cons (re_var 4) (ra_cons (re_ix (re_var 3) re_int) (ra_cons (re_ix (re_var 3) re_int) (ra_cons (re_ct c_tuple T.n_tuple b_tuple (ra_cons (re_lc false (own := ["_law_one"]) (caps := ["_law_feed_here"]) (js := [0]) rfl rfl rfl rfl rfl (⟨⟨rfl, Or.inr (Or.inl rfl), rfl, rfl⟩, trivial⟩) rfl (ri_rng T.n_range (ra_cons (re_var 1) ra_nil)) (fun _ _ _ _ => (rg_name (i := 0) (show (["_law_one", "_law_feed_here"] : List Str).Nodup by decide +kernel) rfl (Or.inl rfl) (Or.inr rfl))) (fun _ _ _ _ => (rifs_one (rt_cmp o_gt (re_c c_law_draw (hr.mono (by decide)) (ra_cons (re_var 1) (ra_cons re_int ra_nil))) re_int))) (fun _ _ _ _ => (re_var 0))) ra_nil)) ra_nil))))))) rss_nil)
      (rss_one (rs_ret (re_tup (ra_cons (re_var 4) (ra_cons (re_ix (re_var 3) re_int) (ra_cons (re_ix (re_var 3) re_int) ra_nil))))))))))))
end
end Ln
namespace Ln
open PySem L2 PF
noncomputable def B_law_flat : FS :=
    (fSeq (fSet 3 (fOp (gAdd false) (fC (.da (.int 1))) (fCall 2 F_law_draw (fCons (fVar 0) (fCons (fC (.da (.int 3))) fNil)))))
    (fSeq (fSet 4 (fLc false [0, 3, 1] 1 (fRng (fCons (fCall 2 F_law_draw (fCons (fVar 0) (fCons (fOp (gAdd false) (fVar 2) (fC (.da (.int 1)))) fNil))) fNil)) (.nm 0) fYes (fCall 3 F_law_part (fCons (fVar 1) (fCons (fVar 2) (fCons (fVar 3) fNil))))))
    (fSeq (fSet 5 (fSl false (fCall 2 F_law_shuffled (fCons (fVar 0) (fCons (fVar 1) fNil))) fNo (fSome (fCall 2 F_law_draw (fCons (fVar 0) (fCons (fOp (gAdd false) (fCB gMin (fCons (fC (.da (.int 6))) (fCons (fCB gLen (fCons (fVar 1) fNil)) fNil))) (fC (.da (.int 1)))) fNil))))))
    (fRet (fTup (fCons (fVar 3) (fCons (fCB gTuple (fCons (fVar 5) fNil)) (fCons (fCB gTuple (fCons (fVar 4) fNil)) fNil))))))))
noncomputable def F_law_flat : FF := bodyF 6 B_law_flat
theorem e_law_flat {a0 a1 a2 : D} {s : S} : F_law_flat [a0, a1, a2] s = (B_law_flat [some a0, some a1, some a2, none, none, none] s).bind kBody := rfl
theorem sc_law_flat : FnScope ["_law_feed_here", "_law_ports_here", "_law_most", "_law_things", "_law_parts", "_law_seen"] ["_law_feed_here", "_law_ports_here", "_law_most"] (defScope s__law_flat) := ⟨rfl, rfl, rfl, by decide +kernel, rfl, by decide +kernel, by decide +kernel⟩
section
variable {P : Program} {w : World} {K : PySem.W.Frag} {mg : Str → Option Value} {base : Heap}
theorem ok_law_flat (T : Txt0 K mg) : CalF P w K mg base "_law_flat" 4 3 F_law_flat := by
  have c_law_draw := ok_law_draw (P := P) (w := w) (base := base) T
  have c_law_shuffled := ok_law_shuffled (P := P) (w := w) (base := base) T
  have c_law_part := ok_law_part (P := P) (w := w) (base := base) T
  exact calF (k := 3) T.h__law_flat sc_law_flat rfl rfl (fun f cdv A outer s H E hr =>
      (rss_cons (rs_set (i := 3) sc_law_flat.nd rfl (Or.inr rfl) (re_op (o_add false) re_int (re_c c_law_draw (hr.mono (by decide)) (ra_cons (re_var 0) (ra_cons re_int ra_nil)))))
      (rss_cons (rs_setLc false (own := ["_law_k"]) (caps := ["_law_feed_here", "_law_things", "_law_ports_here"]) (js := [0, 3, 1]) (i := 4) rfl sc_law_flat.nd rfl rfl rfl rfl rfl rfl rfl (⟨⟨rfl, Or.inr (Or.inl rfl), rfl, rfl⟩, ⟨⟨rfl, Or.inr (Or.inl rfl), rfl, rfl⟩, ⟨⟨rfl, Or.inr (Or.inl rfl), rfl, rfl⟩, trivial⟩⟩⟩) rfl (ri_rng T.n_range (ra_cons (re_c c_law_draw (hr.mono (by decide)) (ra_cons (re_var 0) (ra_cons (re_op (o_add false) (re_var 2) re_int) ra_nil))) ra_nil)) (fun _ _ _ _ => (rg_name (i := 0) (show (["_law_k", "_law_feed_here", "_law_things", "_law_ports_here"] : List Str).Nodup by decide +kernel) rfl (Or.inl rfl) (Or.inr rfl))) (fun _ _ _ _ => rifs_nil) (fun _ _ _ _ => (re_c c_law_part (hr.mono (by decide)) (ra_cons (re_var 1) (ra_cons (re_var 2) (ra_cons (re_var 3) ra_nil))))))
      (rss_cons (rs_set (i := 5) sc_law_flat.nd rfl (Or.inl rfl) (re_slice false (re_c c_law_shuffled (hr.mono (by decide)) (ra_cons (re_var 0) (ra_cons (re_var 1) ra_nil))) ro_none (ro_some (re_c c_law_draw (hr.mono (by decide)) (ra_cons (re_var 0) (ra_cons (re_op (o_add false) (re_cb (c_min rfl) T.n_min b_min (ra_cons re_int (ra_cons (re_cb c_len T.n_len b_len (ra_cons (re_var 1) ra_nil)) ra_nil))) re_int) ra_nil))))))
      (rss_one (rs_ret (re_tup (ra_cons (re_var 3) (ra_cons (re_ct c_tuple T.n_tuple b_tuple (ra_cons (re_var 5) ra_nil)) (ra_cons (re_ct c_tuple T.n_tuple b_tuple (ra_cons (re_var 4) ra_nil)) ra_nil))))))))))
end
end Ln
namespace Ln
open PySem L2 PF
noncomputable def R_law_bent_6 (F_law_bent : FF) : FS :=
    (fRet (fOp gIx (fVar 4) (fCall 2 F_law_draw (fCons (fVar 0) (fCons (fC (.da (.int 19))) fNil)))))
noncomputable def R_law_bent_5 (F_law_bent : FF) : FS :=
    (fSeq (fSet 4 (fLst false (fCons (fC (.da (.none))) (fCons (fC (.da (.bool true))) (fCons (fC (.da (.bool false))) (fCons (fC (.da (.int 0))) (fCons (fC (.da (.int 1))) (fCons (fC (.da (.int 2))) (fCons (fC (.da (.int 3))) (fCons (fNeg (fC (.da (.int 1)))) (fCons (fC (.da (.str "a"))) (fCons (fC (.da (.str ""))) (fCons (fC (.da (.str "ab"))) (fCons (fC (.da (.str "A"))) (fCons (fC (.da (.str "ninesigns"))) (fCons (fC (.da (.str "net"))) (fCons (fC (.da (.str "merge"))) (fCons (fC (.da (.str "place"))) (fCons (fTup fNil) (fCons (fLst false fNil) (fCons (fTup (fCons (fC (.da (.str "a"))) fNil)) fNil)))))))))))))))))))))
    (R_law_bent_6 F_law_bent))
noncomputable def R_law_bent_4 (F_law_bent : FF) : FS :=
    (fSeq (fIfS (fAndT (fTru (fCB gIsi (fCons (fVar 1) (fCons (fC (.ty "str")) fNil)))) (fAndT (fTest (fOp gNe (fVar 1) (fC (.da (.str ""))))) (fTest (fOp gGt (fVar 3) (fC (.da (.int 1))))))) (fSeq (fSet 2 (fCall 2 F_law_draw (fCons (fVar 0) (fCons (fCB gLen (fCons (fVar 1) fNil)) fNil))))
    (fRet (fOp (gAdd false) (fOp (gAdd false) (fSl false (fVar 1) fNo (fSome (fVar 2))) (fOp gIx (fC (.da (.str "abcdefghijklmnopqrstuvwxyz"))) (fCall 2 F_law_draw (fCons (fVar 0) (fCons (fC (.da (.int 26))) fNil))))) (fSl false (fVar 1) (fSome (fOp (gAdd false) (fVar 2) (fC (.da (.int 1))))) fNo)))) fNext)
    (R_law_bent_5 F_law_bent))
noncomputable def R_law_bent_3 (F_law_bent : FF) : FS :=
    (fSeq (fIfS (fAndT (fTru (fCB gIsi (fCons (fVar 1) (fCons (fC (.ty "int")) fNil)))) (fTest (fOp gGt (fVar 3) (fC (.da (.int 0)))))) (fRet (fOp gIx (fLst false (fCons (fOp gSub (fNeg (fC (.da (.int 1)))) (fVar 1)) (fCons (fOp (gAdd false) (fVar 1) (fC (.da (.int 1)))) (fCons (fOp gSub (fVar 1) (fC (.da (.int 1)))) (fCons (fOp gEq (fVar 1) (fC (.da (.int 1)))) fNil))))) (fOp gSub (fVar 3) (fC (.da (.int 1)))))) fNext)
    (R_law_bent_4 F_law_bent))
noncomputable def R_law_bent_2 (F_law_bent : FF) : FS :=
    (fSeq (fIfS (fAndT (fTru (fCB gIsi (fCons (fVar 1) (fCons (fC (.ty "tuple")) fNil)))) (fTest (fOp gGt (fVar 3) (fC (.da (.int 0)))))) (fSeq (fSet 2 (fCall 2 F_law_draw (fCons (fVar 0) (fCons (fOp (gAdd false) (fCB gLen (fCons (fVar 1) fNil)) (fC (.da (.int 1)))) fNil))))
    (fRet (fOp gIx (fLst false (fCons (fCB (gList false) (fCons (fVar 1) fNil)) (fCons (fOp (gAdd false) (fSl false (fVar 1) fNo (fSome (fVar 2))) (fSl false (fVar 1) (fSome (fOp (gAdd false) (fVar 2) (fC (.da (.int 1))))) fNo)) (fCons (fOp (gAdd false) (fSl false (fVar 1) fNo (fSome (fOp (gAdd false) (fVar 2) (fC (.da (.int 1)))))) (fSl false (fVar 1) (fSome (fVar 2)) fNo)) (fCons (fRev (fVar 1) (fNeg (fC (.da (.int 1))))) fNil))))) (fOp gSub (fVar 3) (fC (.da (.int 1))))))) fNext)
    (R_law_bent_3 F_law_bent))
noncomputable def R_law_bent_1 (F_law_bent : FF) : FS :=
    (fSeq (fSet 3 (fCall 2 F_law_draw (fCons (fVar 0) (fCons (fC (.da (.int 5))) fNil))))
    (R_law_bent_2 F_law_bent))
noncomputable def B_law_bent (F_law_bent : FF) : FS :=
    (fSeq (fIfS (fAndT (fTru (fCB gIsi (fCons (fVar 1) (fCons (fC (.ty "tuple")) fNil)))) (fAndT (fTest (fOp gNe (fVar 1) (fTup fNil))) (fTest (fOp gGt (fCall 2 F_law_draw (fCons (fVar 0) (fCons (fC (.da (.int 4))) fNil))) (fC (.da (.int 0))))))) (fSeq (fSet 2 (fCall 2 F_law_draw (fCons (fVar 0) (fCons (fCB gLen (fCons (fVar 1) fNil)) fNil))))
    (fRet (fOp (gAdd false) (fOp (gAdd false) (fSl false (fVar 1) fNo (fSome (fVar 2))) (fTup (fCons (fCall 2 F_law_bent (fCons (fVar 0) (fCons (fOp gIx (fVar 1) (fVar 2)) fNil))) fNil))) (fSl false (fVar 1) (fSome (fOp (gAdd false) (fVar 2) (fC (.da (.int 1))))) fNo)))) fNext)
    (R_law_bent_1 F_law_bent))
noncomputable def F_law_bent : Nat → FF
  | 0 => badF
  | n + 1 => bodyF 5 (B_law_bent (F_law_bent n))
theorem e_law_bent {n : Nat} {a0 a1 : D} {s : S} : F_law_bent (n + 1) [a0, a1] s = (B_law_bent (F_law_bent n) [some a0, some a1, none, none, none] s).bind kBody := rfl
theorem sc_law_bent : FnScope ["_law_feed_here", "_law_thing", "_law_at", "_law_way", "_law_some"] ["_law_feed_here", "_law_thing"] (defScope s__law_bent) := ⟨rfl, rfl, rfl, by decide +kernel, rfl, by decide +kernel, by decide +kernel⟩
section
variable {P : Program} {w : World} {K : PySem.W.Frag} {mg : Str → Option Value} {base : Heap}
theorem ok_law_bent (T : Txt0 K mg) : ∀ n : Nat, CalF P w K mg base "_law_bent" (2 + n) 2 (F_law_bent n)
  | 0 => (cal_bad (k := 1) T.h__law_bent sc_law_bent rfl)
  | n + 1 => by
    have c_law_draw := ok_law_draw (P := P) (w := w) (base := base) T
    have ih := ok_law_bent T n
    exact calF (k := 2 + n) T.h__law_bent sc_law_bent rfl rfl (fun f cdv A outer s H E hr =>
      (rss_cons (rs_if (RW.rt (rw_and (rt_tru (re_cb c_isi T.n_isinstance b_isinstance (ra_cons (re_var 1) (ra_cons (re_bltn T.n_tuple b_tuple) ra_nil)))) (rw_and (rt_cmp (o_ne (u64 hr)) (re_var 1) (re_tup ra_nil)) (rw_and1 (rt_cmp o_gt (re_c c_law_draw (hr.mono (by omega)) (ra_cons (re_var 0) (ra_cons re_int ra_nil))) re_int))))) (rss_cons (rs_set (i := 2) sc_law_bent.nd rfl (Or.inl rfl) (re_c c_law_draw (hr.mono (by omega)) (ra_cons (re_var 0) (ra_cons (re_cb c_len T.n_len b_len (ra_cons (re_var 1) ra_nil)) ra_nil))))
      (rss_one (rs_ret (re_op (o_add false) (re_op (o_add false) (re_slice false (re_var 1) ro_none (ro_some (re_var 2))) (re_tup (ra_cons (re_c ih (hr.mono (by omega)) (ra_cons (re_var 0) (ra_cons (re_ix (re_var 1) (re_var 2)) ra_nil))) ra_nil))) (re_slice false (re_var 1) (ro_some (re_op (o_add false) (re_var 2) re_int)) ro_none))))) rss_nil)
      (rss_cons (rs_set (i := 3) sc_law_bent.nd rfl (Or.inl rfl) (re_c c_law_draw (hr.mono (by omega)) (ra_cons (re_var 0) (ra_cons re_int ra_nil))))
      (rss_cons (rs_if (RW.rt (rw_and (rt_tru (re_cb c_isi T.n_isinstance b_isinstance (ra_cons (re_var 1) (ra_cons (re_bltn T.n_tuple b_tuple) ra_nil)))) (rw_and1 (rt_cmp o_gt (re_var 3) re_int)))) (rss_cons (rs_set (i := 2) sc_law_bent.nd rfl (Or.inl rfl) (re_c c_law_draw (hr.mono (by omega)) (ra_cons (re_var 0) (ra_cons (re_op (o_add false) (re_cb c_len T.n_len b_len (ra_cons (re_var 1) ra_nil)) re_int) ra_nil))))
      (rss_one (rs_ret (re_ix (re_lst false (ra_cons (re_ct (c_list false) T.n_list b_list (ra_cons (re_var 1) ra_nil)) (ra_cons (re_op (o_add false) (re_slice false (re_var 1) ro_none (ro_some (re_var 2))) (re_slice false (re_var 1) (ro_some (re_op (o_add false) (re_var 2) re_int)) ro_none)) (ra_cons (re_op (o_add false) (re_slice false (re_var 1) ro_none (ro_some (re_op (o_add false) (re_var 2) re_int))) (re_slice false (re_var 1) (ro_some (re_var 2)) ro_none)) (ra_cons (re_rev (re_var 1) (re_neg re_int)) ra_nil))))) (re_op o_sub (re_var 3) re_int))))) rss_nil)
      (rss_cons (rs_if (RW.rt (rw_and (rt_tru (re_cb c_isi T.n_isinstance b_isinstance (ra_cons (re_var 1) (ra_cons (re_bltn T.n_int b_int) ra_nil)))) (rw_and1 (rt_cmp o_gt (re_var 3) re_int)))) (rss_one (rs_ret (re_ix (re_lst false (ra_cons (re_op o_sub (re_neg re_int) (re_var 1)) (ra_cons (re_op (o_add false) (re_var 1) re_int) (ra_cons (re_op o_sub (re_var 1) re_int) (ra_cons (re_cmp (o_eq (u64 hr)) (re_var 1) re_int) ra_nil))))) (re_op o_sub (re_var 3) re_int)))) rss_nil)
      (rss_cons (rs_if (RW.rt (rw_and (rt_tru (re_cb c_isi T.n_isinstance b_isinstance (ra_cons (re_var 1) (ra_cons (re_bltn T.n_str b_str) ra_nil)))) (rw_and (rt_cmp (o_ne (u64 hr)) (re_var 1) re_str) (rw_and1 (rt_cmp o_gt (re_var 3) re_int))))) (rss_cons (rs_set (i := 2) sc_law_bent.nd rfl (Or.inl rfl) (re_c c_law_draw (hr.mono (by omega)) (ra_cons (re_var 0) (ra_cons (re_cb c_len T.n_len b_len (ra_cons (re_var 1) ra_nil)) ra_nil))))
      (rss_one (rs_ret (re_op (o_add false) (re_op (o_add false) (re_slice false (re_var 1) ro_none (ro_some (re_var 2))) (re_ix re_str (re_c c_law_draw (hr.mono (by omega)) (ra_cons (re_var 0) (ra_cons re_int ra_nil))))) (re_slice false (re_var 1) (ro_some (re_op (o_add false) (re_var 2) re_int)) ro_none))))) rss_nil)
      (rss_cons (rs_set (i := 4) sc_law_bent.nd rfl (Or.inl rfl) (re_lst false (ra_cons re_non (ra_cons re_bl (ra_cons re_bl (ra_cons re_int (ra_cons re_int (ra_cons re_int (ra_cons re_int (ra_cons (re_neg re_int) (ra_cons re_str (ra_cons re_str (ra_cons re_str (ra_cons re_str (ra_cons re_str (ra_cons re_str (ra_cons re_str (ra_cons re_str (ra_cons (re_tup ra_nil) (ra_cons (re_lst false ra_nil) (ra_cons (re_tup (ra_cons re_str ra_nil)) ra_nil)))))))))))))))))))))
      (rss_one (rs_ret (re_ix (re_var 4) (re_c c_law_draw (hr.mono (by omega)) (ra_cons (re_var 0) (ra_cons re_int ra_nil)))))))))))))
end
end Ln
namespace Ln
open PySem L2 PF
noncomputable def B_law_names : FS :=
    (fSeq (fSet 1 (fCB (gList true) (fCons (fOp gIx (fVar 0) (fC (.da (.int 1)))) fNil)))
    (fSeq (fFor (fIt (fOp gIx (fVar 0) (fC (.da (.int 2))))) (.nm 2) (fFor (fIt (fSl false (fVar 2) (fSome (fC (.da (.int 1)))) (fSome (fC (.da (.int 3)))))) (.nm 3) (fDrop (fMt gExtend (fVar 1) (fCons (fIf (fTru (fCB gIsi (fCons (fVar 3) (fCons (fC (.ty "str")) fNil)))) (fLst false (fCons (fVar 3) fNil)) (fIf (fTru (fCB gIsi (fCons (fVar 3) (fCons (fC (.ty "tuple")) fNil)))) (fCB (gList false) (fCons (fVar 3) fNil)) (fLst false fNil))) fNil)))))
    (fRet (fCB (gSortSet false) (fCons (fVar 1) fNil)))))
noncomputable def F_law_names : FF := bodyF 4 B_law_names
theorem e_law_names {a0 : D} {s : S} : F_law_names [a0] s = (B_law_names [some a0, none, none, none] s).bind kBody := rfl
theorem sc_law_names : FnScope ["_law_net", "_law_found", "_law_part_here", "_law_one"] ["_law_net"] (defScope s__law_names) := ⟨rfl, rfl, rfl, by decide +kernel, rfl, by decide +kernel, by decide +kernel⟩
section
variable {P : Program} {w : World} {K : PySem.W.Frag} {mg : Str → Option Value} {base : Heap}
theorem ok_law_names (T : Txt0 K mg) : CalF P w K mg base "_law_names" 1 1 F_law_names := by
  exact calF (k := 0) T.h__law_names sc_law_names rfl rfl (fun f cdv A outer s H E hr =>
      (rss_cons (rs_set (i := 1) sc_law_names.nd rfl (Or.inl rfl) (re_ct (c_list true) T.n_list b_list (ra_cons (re_ix (re_var 0) re_int) ra_nil)))
      (rss_cons (rs_for rfl (ri_any (re_ix (re_var 0) re_int)) (rg_name (i := 2) sc_law_names.nd rfl (Or.inl rfl)) (rss_one (rs_for rfl (ri_any (re_slice false (re_var 2) (ro_some re_int) (ro_some re_int))) (rg_name (i := 3) sc_law_names.nd rfl (Or.inl rfl)) (rss_one (rs_expr (re_mt PySem.F.slot_list_extend PySem.F.type_list_extend m_extend (re_var 1) (ra_cons (re_if (rt_tru (re_cb c_isi T.n_isinstance b_isinstance (ra_cons (re_var 3) (ra_cons (re_bltn T.n_str b_str) ra_nil)))) (re_lst false (ra_cons (re_var 3) ra_nil)) (re_if (rt_tru (re_cb c_isi T.n_isinstance b_isinstance (ra_cons (re_var 3) (ra_cons (re_bltn T.n_tuple b_tuple) ra_nil)))) (re_ct (c_list false) T.n_list b_list (ra_cons (re_var 3) ra_nil)) (re_lst false ra_nil))) ra_nil)))))))
      (rss_one (rs_ret (re_sortset false rfl T.n_sorted T.n_set (ra_cons (re_var 1) ra_nil)))))))
end
end Ln
namespace Ln
open PySem L2 PF
noncomputable def B_law_is_thing : FS :=
    (fRet (fAnd (fCB gIsi (fCons (fVar 1) (fCons (fC (.ty "int")) fNil))) (fAnd (fNot (fCB gIsi (fCons (fVar 1) (fCons (fC (.ty "bool")) fNil)))) (fChain gLe gLt (fC (.da (.int 0))) (fVar 1) (fOp gIx (fVar 0) (fC (.da (.int 0))))))))
noncomputable def F_law_is_thing : FF := bodyF 2 B_law_is_thing
theorem e_law_is_thing {a0 a1 : D} {s : S} : F_law_is_thing [a0, a1] s = (B_law_is_thing [some a0, some a1] s).bind kBody := rfl
theorem sc_law_is_thing : FnScope ["_law_net", "_law_thing"] ["_law_net", "_law_thing"] (defScope s__law_is_thing) := ⟨rfl, rfl, rfl, by decide +kernel, rfl, by decide +kernel, by decide +kernel⟩
section
variable {P : Program} {w : World} {K : PySem.W.Frag} {mg : Str → Option Value} {base : Heap}
theorem ok_law_is_thing (T : Txt0 K mg) : CalF P w K mg base "_law_is_thing" 1 2 F_law_is_thing := by
  exact calF (k := 0) T.h__law_is_thing sc_law_is_thing rfl rfl (fun f cdv A outer s H E hr =>
      (rss_one (rs_ret (re_and (re_cb c_isi T.n_isinstance b_isinstance (ra_cons (re_var 1) (ra_cons (re_bltn T.n_int b_int) ra_nil))) (re_and (re_not (re_cb c_isi T.n_isinstance b_isinstance (ra_cons (re_var 1) (ra_cons (re_bltn T.n_bool b_bool) ra_nil)))) (re_one (re_chain o_le o_lt re_int (re_var 1) (re_ix (re_var 0) re_int))))))))
end
end Ln
namespace Ln
open PySem L2 PF
noncomputable def B_law_is_stand : FS :=
    (fSeq (fSet 2 (fCB gLen (fCons (fLc false [] 1 (fIt (fOp gIx (fVar 0) (fC (.da (.int 2))))) (.nm 0) (fTest (fOp gIn (fOp gIx (fVar 0) (fC (.da (.int 0)))) (fTup (fVs (List.map D.da [.str "place", .str "last"]))))) (fVar 0)) fNil)))
    (fSeq (fIfS (fOrT (fNotT (fTru (fCB gIsi (fCons (fVar 1) (fCons (fC (.ty "tuple")) fNil))))) (fTest (fOp gNe (fCB gLen (fCons (fVar 1) fNil)) (fVar 2)))) (fRet (fC (.da (.bool false)))) fNext)
    (fRet (fOp gEq (fLc false [0] 1 (fIt (fVar 1)) (.nm 0) (fAndT (fTest (fOp gIsNot (fVar 0) (fC (.da (.none))))) (fNotT (fTru (fCall 2 F_law_is_thing (fCons (fVar 1) (fCons (fVar 0) fNil)))))) (fVar 0)) (fLst false fNil)))))
noncomputable def F_law_is_stand : FF := bodyF 3 B_law_is_stand
theorem e_law_is_stand {a0 a1 : D} {s : S} : F_law_is_stand [a0, a1] s = (B_law_is_stand [some a0, some a1, none] s).bind kBody := rfl
theorem sc_law_is_stand : FnScope ["_law_net", "_law_thing", "_law_many"] ["_law_net", "_law_thing"] (defScope s__law_is_stand) := ⟨rfl, rfl, rfl, by decide +kernel, rfl, by decide +kernel, by decide +kernel⟩
section
variable {P : Program} {w : World} {K : PySem.W.Frag} {mg : Str → Option Value} {base : Heap}
theorem ok_law_is_stand (T : Txt0 K mg) : CalF P w K mg base "_law_is_stand" 2 2 F_law_is_stand := by
  have c_law_is_thing := ok_law_is_thing (P := P) (w := w) (base := base) T
  exact calF (k := 1) T.h__law_is_stand sc_law_is_stand rfl rfl (fun f cdv A outer s H E hr =>
      (rss_cons (rs_set (i := 2) sc_law_is_stand.nd rfl (Or.inl rfl) (re_cb c_len T.n_len b_len (ra_cons (re_lc false (own := ["_law_part_here"]) (caps := []) (js := []) rfl rfl rfl rfl rfl (trivial) rfl (ri_any (re_ix (re_var 0) re_int)) (fun _ _ _ _ => (rg_name (i := 0) (show (["_law_part_here"] : List Str).Nodup by decide +kernel) rfl (Or.inl rfl) (Or.inr rfl))) (fun _ _ _ _ => (rifs_one (rt_cmp (o_in (u65 hr)) (re_ix (re_var 0) re_int) (re_tup (ra_consts rfl))))) (fun _ _ _ _ => (re_var 0))) ra_nil)))
      (rss_cons (rs_if (RW.rt (rw_or (rt_not (rt_tru (re_cb c_isi T.n_isinstance b_isinstance (ra_cons (re_var 1) (ra_cons (re_bltn T.n_tuple b_tuple) ra_nil))))) (rw_or1 (rt_cmp (o_ne (u64 hr)) (re_cb c_len T.n_len b_len (ra_cons (re_var 1) ra_nil)) (re_var 2))))) (rss_one (rs_ret re_bl)) rss_nil)
      (rss_one (rs_ret (re_cmp (o_eq (u64 hr)) (re_lc false (own := ["_law_one"]) (caps := ["_law_net"]) (js := [0]) rfl rfl rfl rfl rfl (⟨⟨rfl, Or.inr (Or.inl rfl), rfl, rfl⟩, trivial⟩) rfl (ri_any (re_var 1)) (fun _ _ _ _ => (rg_name (i := 0) (show (["_law_one", "_law_net"] : List Str).Nodup by decide +kernel) rfl (Or.inl rfl) (Or.inr rfl))) (fun _ _ _ _ => (rifs_one (RW.rt (rw_and (rt_cmp o_isnot (re_var 0) re_non) (rw_and1 (rt_not (rt_tru (re_c c_law_is_thing (hr.mono (by decide)) (ra_cons (re_var 1) (ra_cons (re_var 0) ra_nil)))))))))) (fun _ _ _ _ => (re_var 0))) (re_lst false ra_nil)))))))
end
end Ln
namespace Ln
open PySem L2 PF
noncomputable def B_law_is_moment : FS :=
    (fSeq (fSet 2 (fCall 1 F_law_names (fCons (fVar 0) fNil)))
    (fSeq (fIfS (fNotT (fTru (fCB gIsi (fCons (fVar 1) (fCons (fC (.ty "tuple")) fNil))))) (fRet (fC (.da (.bool false)))) fNext)
    (fSeq (fFor (fIt (fVar 1)) (.nm 3) (fSeq (fIfS (fOrT (fNotT (fTru (fCB gIsi (fCons (fVar 3) (fCons (fC (.ty "tuple")) fNil))))) (fOrT (fTest (fOp gNe (fCB gLen (fCons (fVar 3) fNil)) (fC (.da (.int 2))))) (fNotT (fTru (fCB gIsi (fCons (fOp gIx (fVar 3) (fC (.da (.int 0)))) (fCons (fC (.ty "str")) fNil))))))) (fRet (fC (.da (.bool false)))) fNext)
    (fIfS (fOrT (fTest (fOp gNotIn (fOp gIx (fVar 3) (fC (.da (.int 0)))) (fVar 2))) (fNotT (fTru (fCall 2 F_law_is_thing (fCons (fVar 0) (fCons (fOp gIx (fVar 3) (fC (.da (.int 1)))) fNil)))))) (fRet (fC (.da (.bool false)))) fNext)))
    (fRet (fOp gEq (fLc false [] 1 (fIt (fVar 1)) (.nm 0) fYes (fOp gIx (fVar 0) (fC (.da (.int 0))))) (fCB (gSortSet false) (fCons (fLc false [] 1 (fIt (fVar 1)) (.nm 0) fYes (fOp gIx (fVar 0) (fC (.da (.int 0))))) fNil)))))))
noncomputable def F_law_is_moment : FF := bodyF 4 B_law_is_moment
theorem e_law_is_moment {a0 a1 : D} {s : S} : F_law_is_moment [a0, a1] s = (B_law_is_moment [some a0, some a1, none, none] s).bind kBody := rfl
theorem sc_law_is_moment : FnScope ["_law_net", "_law_thing", "_law_names_here", "_law_pair"] ["_law_net", "_law_thing"] (defScope s__law_is_moment) := ⟨rfl, rfl, rfl, by decide +kernel, rfl, by decide +kernel, by decide +kernel⟩
section
variable {P : Program} {w : World} {K : PySem.W.Frag} {mg : Str → Option Value} {base : Heap}
theorem ok_law_is_moment (T : Txt0 K mg) : CalF P w K mg base "_law_is_moment" 2 2 F_law_is_moment := by
  have c_law_names := ok_law_names (P := P) (w := w) (base := base) T
  have c_law_is_thing := ok_law_is_thing (P := P) (w := w) (base := base) T
  exact calF (k := 1) T.h__law_is_moment sc_law_is_moment rfl rfl (fun f cdv A outer s H E hr =>
      (rss_cons (rs_set (i := 2) sc_law_is_moment.nd rfl (Or.inl rfl) (re_c c_law_names (hr.mono (by decide)) (ra_cons (re_var 0) ra_nil)))
      (rss_cons (rs_if (rt_not (rt_tru (re_cb c_isi T.n_isinstance b_isinstance (ra_cons (re_var 1) (ra_cons (re_bltn T.n_tuple b_tuple) ra_nil))))) (rss_one (rs_ret re_bl)) rss_nil)
      (rss_cons (rs_for rfl (ri_any (re_var 1)) (rg_name (i := 3) sc_law_is_moment.nd rfl (Or.inl rfl)) (rss_cons (rs_if (RW.rt (rw_or (rt_not (rt_tru (re_cb c_isi T.n_isinstance b_isinstance (ra_cons (re_var 3) (ra_cons (re_bltn T.n_tuple b_tuple) ra_nil))))) (rw_or (rt_cmp (o_ne (u64 hr)) (re_cb c_len T.n_len b_len (ra_cons (re_var 3) ra_nil)) re_int) (rw_or1 (rt_not (rt_tru (re_cb c_isi T.n_isinstance b_isinstance (ra_cons (re_ix (re_var 3) re_int) (ra_cons (re_bltn T.n_str b_str) ra_nil))))))))) (rss_one (rs_ret re_bl)) rss_nil)
      (rss_one (rs_if (RW.rt (rw_or (rt_cmp (o_notin (u65 hr)) (re_ix (re_var 3) re_int) (re_var 2)) (rw_or1 (rt_not (rt_tru (re_c c_law_is_thing (hr.mono (by decide)) (ra_cons (re_var 0) (ra_cons (re_ix (re_var 3) re_int) ra_nil)))))))) (rss_one (rs_ret re_bl)) rss_nil))))
      (rss_one (rs_ret (re_cmp (o_eq (u64 hr)) (re_lc false (own := ["_law_pair"]) (caps := []) (js := []) rfl rfl rfl rfl rfl (trivial) rfl (ri_any (re_var 1)) (fun _ _ _ _ => (rg_name (i := 0) (show (["_law_pair"] : List Str).Nodup by decide +kernel) rfl (Or.inl rfl) (Or.inr rfl))) (fun _ _ _ _ => rifs_nil) (fun _ _ _ _ => (re_ix (re_var 0) re_int))) (re_sortset false rfl T.n_sorted T.n_set (ra_cons (re_lc false (own := ["_law_pair"]) (caps := []) (js := []) rfl rfl rfl rfl rfl (trivial) rfl (ri_any (re_var 1)) (fun _ _ _ _ => (rg_name (i := 0) (show (["_law_pair"] : List Str).Nodup by decide +kernel) rfl (Or.inl rfl) (Or.inr rfl))) (fun _ _ _ _ => rifs_nil) (fun _ _ _ _ => (re_ix (re_var 0) re_int))) ra_nil)))))))))
end
end Ln
namespace Ln
open PySem L2 PF
noncomputable def B_law_right : FS :=
    (fSeq (fSet 2 (fCB gRepr (fCons (fLst false (fCons (fVar 0) (fCons (fVar 1) fNil))) fNil)))
    (fSeq (fIfS (fTest (fOp gNe (fCB gRepr (fCons (fCall 2 Fis_stand (fCons (fVar 0) (fCons (fVar 1) fNil))) fNil)) (fCB gRepr (fCons (fCall 2 F_law_is_stand (fCons (fVar 0) (fCons (fVar 1) fNil))) fNil)))) (fRet (fC (.da (.bool false)))) fNext)
    (fRet (fAnd (fOp gEq (fCB gRepr (fCons (fCall 2 Fis_moment (fCons (fVar 0) (fCons (fVar 1) fNil))) fNil)) (fCB gRepr (fCons (fCall 2 F_law_is_moment (fCons (fVar 0) (fCons (fVar 1) fNil))) fNil))) (fOp gEq (fCB gRepr (fCons (fLst false (fCons (fVar 0) (fCons (fVar 1) fNil))) fNil)) (fVar 2))))))
noncomputable def F_law_right : FF := bodyF 3 B_law_right
theorem e_law_right {a0 a1 : D} {s : S} : F_law_right [a0, a1] s = (B_law_right [some a0, some a1, none] s).bind kBody := rfl
theorem sc_law_right : FnScope ["_law_net", "_law_thing", "_law_kept"] ["_law_net", "_law_thing"] (defScope s__law_right) := ⟨rfl, rfl, rfl, by decide +kernel, rfl, by decide +kernel, by decide +kernel⟩
section
variable {P : Program} {w : World} {K : PySem.W.Frag} {mg : Str → Option Value} {base : Heap}
theorem ok_law_right (T : Txt0 K mg) : CalF P w K mg base "_law_right" 7 2 F_law_right := by
  have cis_stand := okis_stand (P := P) (w := w) (base := base) T
  have cis_moment := okis_moment (P := P) (w := w) (base := base) T
  have c_law_is_stand := ok_law_is_stand (P := P) (w := w) (base := base) T
  have c_law_is_moment := ok_law_is_moment (P := P) (w := w) (base := base) T
  exact calF (k := 6) T.h__law_right sc_law_right rfl rfl (fun f cdv A outer s H E hr =>
      (rss_cons (rs_set (i := 2) sc_law_right.nd rfl (Or.inl rfl) (re_cb (c_repr hr) T.n_repr b_repr (ra_cons (re_lst false (ra_cons (re_var 0) (ra_cons (re_var 1) ra_nil))) ra_nil)))
      (rss_cons (rs_if (rt_cmp (o_ne (u64 hr)) (re_cb (c_repr hr) T.n_repr b_repr (ra_cons (re_c cis_stand (hr.mono (by decide)) (ra_cons (re_var 0) (ra_cons (re_var 1) ra_nil))) ra_nil)) (re_cb (c_repr hr) T.n_repr b_repr (ra_cons (re_c c_law_is_stand (hr.mono (by decide)) (ra_cons (re_var 0) (ra_cons (re_var 1) ra_nil))) ra_nil))) (rss_one (rs_ret re_bl)) rss_nil)
      (rss_one (rs_ret (re_and (re_cmp (o_eq (u64 hr)) (re_cb (c_repr hr) T.n_repr b_repr (ra_cons (re_c cis_moment (hr.mono (by decide)) (ra_cons (re_var 0) (ra_cons (re_var 1) ra_nil))) ra_nil)) (re_cb (c_repr hr) T.n_repr b_repr (ra_cons (re_c c_law_is_moment (hr.mono (by decide)) (ra_cons (re_var 0) (ra_cons (re_var 1) ra_nil))) ra_nil))) (re_one (re_cmp (o_eq (u64 hr)) (re_cb (c_repr hr) T.n_repr b_repr (ra_cons (re_lst false (ra_cons (re_var 0) (ra_cons (re_var 1) ra_nil))) ra_nil)) (re_var 2)))))))))
end
end Ln
namespace Ln
open PySem L2 PF
noncomputable def Blaw : FS :=
    (fSeq (fSet 1 (fCall 1 F_law_feed (fCons (fVar 0) fNil)))
    (fSeq (fFor (fRng (fCons (fC (.da (.int 4))) fNil)) (.nm 2) (fSeq (fSet 3 (fCall 3 F_law_flat (fCons (fVar 1) (fCons (fCall 2 F_law_ports (fCons (fVar 1) (fCons (fOp (gAdd false) (fC (.da (.int 2))) (fCall 2 F_law_draw (fCons (fVar 1) (fCons (fC (.da (.int 6))) fNil)))) fNil))) (fCons (fC (.da (.int 6))) fNil)))))
    (fSeq (fSet 4 (fCB gTuple (fCons (fLc false [] 1 (fIt (fOp gIx (fVar 3) (fC (.da (.int 2))))) (.nm 0) (fTest (fOp gIn (fOp gIx (fVar 0) (fC (.da (.int 0)))) (fTup (fVs (List.map D.da [.str "place", .str "last"]))))) (fOp gIx (fVar 0) (fC (.da (.int 3))))) fNil)))
    (fSeq (fIfS (fTest (fOp gNe (fCB gRepr (fCons (fCall 1 Ffirst_stand (fCons (fVar 3) fNil)) fNil)) (fCB gRepr (fCons (fVar 4) fNil)))) (fRet (fC (.da (.bool false)))) fNext)
    (fSeq (fSet 5 (fLst false (fCons (fTup fNil) (fCons (fC (.da (.none))) (fCons (fLst false fNil) (fCons (fTup (fCons (fC (.da (.none))) fNil)) (fCons (fC (.da (.int 0))) (fCons (fC (.da (.str "a"))) (fCons (fTup (fCons (fTup (fVs (List.map D.da [.str "a", .int 0]))) fNil)) (fCons (fOp (gAdd false) (fVar 4) (fTup (fCons (fC (.da (.none))) fNil))) (fCons (fSl false (fVar 4) (fSome (fC (.da (.int 1)))) fNo) (fCons (fCB (gList false) (fCons (fVar 4) fNil)) (fCons (fVar 3) fNil)))))))))))))
    (fSeq (fFor (fRng (fCons (fC (.da (.int 6))) fNil)) (.nm 6) (fSeq (fSet 7 (fLc false [1] 1 (fIt (fCall 1 F_law_names (fCons (fVar 3) fNil))) (.nm 0) (fTest (fOp gEq (fCall 2 F_law_draw (fCons (fVar 1) (fCons (fC (.da (.int 2))) fNil))) (fC (.da (.int 0))))) (fVar 0)))
    (fSeq (fSet 8 (fCB gTuple (fCons (fLc false [1, 3] 1 (fIt (fVar 7)) (.nm 0) fYes (fTup (fCons (fVar 0) (fCons (fCall 2 F_law_draw (fCons (fVar 1) (fCons (fOp gIx (fVar 2) (fC (.da (.int 0)))) fNil))) fNil)))) fNil)))
    (fSeq (fSet 9 (fCall 2 (F_law_bent 12) (fCons (fVar 1) (fCons (fVar 8) fNil))))
    (fSeq (fSet 10 (fCB gTuple (fCons (fLc false [1, 3] 1 (fIt (fVar 4)) (.nm 0) fYes (fOp gIx (fLst false (fCons (fC (.da (.none))) (fCons (fC (.da (.int 0))) (fCons (fOp gSub (fOp gIx (fVar 2) (fC (.da (.int 0)))) (fC (.da (.int 1)))) fNil)))) (fCall 2 F_law_draw (fCons (fVar 1) (fCons (fC (.da (.int 3))) fNil))))) fNil)))
    (fSet 5 (fOp (gAdd false) (fVar 5) (fLst false (fCons (fVar 8) (fCons (fVar 9) (fCons (fCall 2 (F_law_bent 12) (fCons (fVar 1) (fCons (fVar 9) fNil))) (fCons (fVar 10) (fCons (fCall 2 (F_law_bent 12) (fCons (fVar 1) (fCons (fVar 10) fNil))) fNil)))))))))))))
    (fFor (fIt (fVar 5)) (.nm 11) (fIfS (fNotT (fTru (fCall 2 F_law_right (fCons (fVar 3) (fCons (fVar 11) fNil))))) (fRet (fC (.da (.bool false)))) fNext))))))))
    (fRet (fC (.da (.bool true))))))
noncomputable def Flaw : FF := bodyF 12 Blaw
theorem elaw {a0 : D} {s : S} : Flaw [a0] s = (Blaw [some a0, none, none, none, none, none, none, none, none, none, none, none] s).bind kBody := rfl
theorem sclaw : FnScope ["_law_script", "_law_feed_here", "_law_k", "_law_net", "_law_due", "_law_things", "_law_j", "_law_names_here", "_law_moment", "_law_bent_here", "_law_stand", "_law_thing"] ["_law_script"] (defScope s_law) := ⟨rfl, rfl, rfl, by decide +kernel, rfl, by decide +kernel, by decide +kernel⟩
section
variable {P : Program} {w : World} {K : PySem.W.Frag} {mg : Str → Option Value} {base : Heap}
end
end Ln
local macro_rules | `(tactic| walk_at "ev") => `(tactic| try simp only [PF.gAdd_int, PF.gAdd_bool, PF.gSub_int, PF.gSub_bool, PF.gSub_boolR, PF.gLt_int, PF.gLt_str, PF.gLe_int, PF.gGt_int, PF.gGe_int, PF.gIs_non, PF.gIsNot_non, PF.okD_int, PF.okD_bool, PF.okD_none, PF.e_op, PF.e_op1, PF.e_op2, PF.e_c, PF.e_var0, PF.e_var1, PF.e_var2, PF.e_var3, PF.e_var4, PF.e_var5, PF.e_var6, PF.e_var7, PF.e_var8, PF.e_var9, PF.e_var10, PF.e_var11, PF.e_var12, PF.e_seq, PF.e_seqn, PF.e_seqr, PF.e_seqb, PF.e_seqc, PF.e_ret, PF.e_ret1, PF.e_retN, PF.e_next, PF.e_brk, PF.e_cnt, PF.e_drop, PF.e_drop1, PF.e_set, PF.e_ifS, PF.e_ifT, PF.e_ifF, PF.e_if, PF.e_ifET, PF.e_ifEF, PF.e_test, PF.e_test1, PF.e_andT, PF.e_orT, PF.e_notT, PF.e_andT1, PF.e_andT0, PF.e_orT1, PF.e_orT0, PF.e_notT1, PF.e_and, PF.e_or, PF.e_not, PF.e_and1, PF.e_and0, PF.e_or1, PF.e_or0, PF.e_not1, PF.e_chain, PF.e_chain1, PF.e_chain2, PF.e_chain3, PF.e_chain0, PF.e_nil, PF.e_vs, PF.e_cons, PF.e_cons1, PF.e_cons2, PF.e_tup, PF.e_lst, PF.tup0, PF.lst0, PF.lst0n, PF.tup1, PF.tup2, PF.tup3, PF.tup4, PF.lst1, PF.lst2, PF.lst3, PF.lst4, PF.e_sl, PF.e_sl1, PF.e_sl2, PF.e_sl3, PF.e_no, PF.e_some, PF.e_some1, PF.e_rev, PF.e_rev1, PF.e_rev2, PF.e_neg, PF.e_neg1, PF.e_tru, PF.tru_bl, PF.tru_tup, PF.tru_lst, PF.e_cb, PF.e_call, PF.e_call1, PF.e_call2, PF.e_call3, PF.e_call4, PF.e_call5, PF.len_tup, PF.len_lst, PF.min_int, PF.list_tup, PF.list_lst, PF.list_tupN, PF.list_lstN, PF.tuple_tup, PF.tuple_lst, PF.isi_tup, PF.isi_int, PF.isi_bool, PF.isi_str, PF.isi_list, PF.sl_tup, PF.sl_lst, PF.sl_frz, PF.e_bodyr, PF.e_bodyn, PF.e_setIt, PF.e_setIt1, PF.e_setIt2, PF.e_setIt3, PF.e_mt, PF.e_mt2, PF.e_frz, PF.frz_da, PF.e_asg, PF.e_for, PF.e_for1, PF.e_it, PF.it_lst, PF.it_tup, PF.it_con, PF.e_rng, PF.e_zip, PF.zip_lst, PF.loop_nil, PF.loop_nx, PF.loop_ct, PF.loop_bk, PF.loop_rt, PF.e_lc, PF.e_newF, PF.e_newT, PF.comp_nil, PF.comp_t, PF.comp_f, PF.comp_x, PF.e_yes, PF.R.bind_ok', PF.R.W_ok', PF.R.Wk_app, PF.l_set0, PF.l_set1, PF.l_set2, PF.l_set3, PF.l_set4, PF.l_set5, PF.l_set6, PF.l_set7, PF.l_set8, PF.l_set9, PF.l_set10, PF.l_set11, PF.l_set12, PF.l_set13, PF.l_set14, PF.l_set15, PF.l_set16, PF.l_set17, PF.l_set18, PF.l_set19, PF.l_nm0, PF.l_nm1, PF.l_nm2, PF.l_nm3, PF.l_nm4, PF.l_nm5, PF.l_nm6, PF.l_nm7, PF.l_nm8, PF.l_nm9, PF.l_nm10, PF.l_nm11, PF.l_nm12, PF.l_nm13, PF.l_nm14, PF.l_nm15, PF.l_nm16, PF.l_nm17, PF.l_nm18, PF.l_nm19, PF.e_var13, PF.e_var14, PF.e_var15, PF.e_var16, PF.e_var17, PF.e_var18, PF.e_var19, Bool.not_true, Bool.not_false, decide_true, decide_false, Bool.and_true, Bool.and_false, Bool.true_and, Bool.false_and, List.length_append, List.length_cons, List.length_nil, List.append_assoc, List.cons_append, List.nil_append, Nat.zero_add, Nat.reduceAdd])
namespace Ln
open PySem L2 PF
section
variable {s : S} {n : Nat} {a b c d v : D}
theorem ix4 (k : Nat) {ds : List D} {x : D} (hl : n < s.length) (h : ds[k]? = some x) : gIx (.ref n) (.int (k : Int)) (s.set n (.lst ds)) = .ok x (s.set n (.lst ds)) := gIx_ref (List.getElem?_set_self hl) h
theorem st4 (k : Nat) {ds : List D} (hl : n < s.length) (h : k < ds.length) : gSet (.ref n) (.int (k : Int)) v (s.set n (.lst ds)) = .ok .non (s.set n (.lst (ds.set k v))) := by
  rw [gSet_ref (List.getElem?_set_self hl) h, List.set_set]
theorem ix0 (hl : n < s.length) : gIx (.ref n) (.int 0) (s.set n (.lst [a, b, c, d])) = .ok a (s.set n (.lst [a, b, c, d])) := ix4 0 hl rfl
theorem ix1 (hl : n < s.length) : gIx (.ref n) (.int 1) (s.set n (.lst [a, b, c, d])) = .ok b (s.set n (.lst [a, b, c, d])) := ix4 1 hl rfl
theorem ix2 (hl : n < s.length) : gIx (.ref n) (.int 2) (s.set n (.lst [a, b, c, d])) = .ok c (s.set n (.lst [a, b, c, d])) := ix4 2 hl rfl
theorem ix3 (hl : n < s.length) : gIx (.ref n) (.int 3) (s.set n (.lst [a, b, c, d])) = .ok d (s.set n (.lst [a, b, c, d])) := ix4 3 hl rfl
theorem st1 (hl : n < s.length) : gSet (.ref n) (.int 1) v (s.set n (.lst [a, b, c, d])) = .ok .non (s.set n (.lst [a, v, c, d])) := st4 1 hl (by simp)
theorem st2 (hl : n < s.length) : gSet (.ref n) (.int 2) v (s.set n (.lst [a, b, c, d])) = .ok .non (s.set n (.lst [a, b, v, d])) := st4 2 hl (by simp)
theorem st3 (hl : n < s.length) : gSet (.ref n) (.int 3) v (s.set n (.lst [a, b, c, d])) = .ok .non (s.set n (.lst [a, b, c, v])) := st4 3 hl (by simp)
end
structure Fd (s : S) (n c : Nat) : Prop where
  ex : ∃ (xs : List Int) (i j k : Int), s[n]? = some (.lst [.lst (xs.map PyData.int), .int i, .int j, .int k]) ∧ xs.length ≤ 63 ∧ 0 ≤ i ∧ 0 ≤ k ∧ k ≤ c
theorem Fd.lt {s : S} {n c : Nat} (h : Fd s n c) : n < s.length := by
  obtain ⟨xs, i, j, k, e, _⟩ := h.ex
  exact (List.getElem?_eq_some_iff.mp e).1
theorem fd_set {s : S} {n c : Nat} {xs : List Int} {i j k : Int} (hl : n < s.length) (hx : xs.length ≤ 63) (hi : 0 ≤ i) (hk : 0 ≤ k) (hc : k ≤ c) : Fd (s.set n (.lst [.lst (xs.map PyData.int), .int i, .int j, .int k])) n c := ⟨xs, i, j, k, List.getElem?_set_self hl, hx, hi, hk, hc⟩
theorem eqv_nil (xs : List PyData) : PyData.eqv (.list xs) (.list []) = xs.isEmpty := by cases xs <;> rfl
theorem lay_ints : ∀ xs : List Int, PyData.canLayAll0 (xs.map PyData.int) = true
  | [] => rfl
  | x :: r => by simp only [List.map_cons, PyData.canLayAll0, PyData.canLay0, lay_ints r, Bool.and_self]
theorem depth_ints : ∀ xs : List Int, PyData.depthAll (xs.map PyData.int) ≤ 1
  | [] => by (simp [PyData.depthAll])
  | x :: r => by simp only [List.map_cons, PyData.depthAll, PyData.depth]; have := depth_ints r; omega
theorem okD_ints (xs : List Int) : okD (.list (xs.map PyData.int)) = true := by
  unfold okD
  rw [Bool.and_eq_true]
  refine ⟨by simp only [PyData.canLay0]; exact lay_ints xs, decide_eq_true ?_⟩
  simp only [PyData.depth]
  have := depth_ints xs
  omega
theorem draw_ok {s : S} {n c : Nat} {m : Int} (h : Fd s n c) (hm : 0 < m) (hm2 : m < 1073741824) (hc : c < 2 ^ 40) : (F_law_draw [.ref n, .int m] s).W fun d s' => ∃ i, d = .int i ∧ 0 ≤ i ∧ i < m ∧ Fd s' n (c + 1) ∧ Same n s s' := by
  obtain ⟨xs, i, j, k, e, hx, hi, hk, hkc⟩ := h.ex
  have hl : n < s.length := (List.getElem?_eq_some_iff.mp e).1
  have e0 : F_law_draw [.ref n, .int m] s = F_law_draw [.ref n, .int m] (s.set n (.lst [.lst (xs.map PyData.int), .int i, .int j, .int k])) := by rw [set_self e]
  rw [e0, e_law_draw]; unfold B_law_draw
  have fin : ∀ x : Int, 0 ≤ x % m ∧ x % m < m := fun x => ⟨Int.emod_nonneg _ (by omega), Int.emod_lt_of_pos _ hm⟩
  have p18 : ∀ s : S, gPow (.int 10) (.int 18) s = .ok (.int 1000000000000000000) s := fun s => gPow_int (by decide) (by decide) (by decide)
  by_cases hj : 0 < j
  · simp [ix0 hl, ix1 hl, ix2 hl, ix3 hl, st1 hl, st2 hl, st3 hl, hj, gMod_int hm, gDiv_int hm hm2]
    exact ⟨(fin _).1, (fin _).2, fd_set hl hx hi (by omega) (by omega), same_set⟩
  · have q1 : ∀ (x : Int) (s : S), gMod (.int x) (.int 998244353) s = .ok (.int (x % 998244353)) s := fun x s => gMod_int (by decide)
    have q2 : ∀ (x : Int) (s : S), gMul (.int 5003) (.int x) s = .ok (.int (5003 * x)) s := fun x s => gMul_int (.inl (by decide))
    have q3 : ∀ (x : Int) (s : S), gMul (.int x) (.int 69621) s = .ok (.int (x * 69621)) s := fun x s => gMul_int (.inr (by decide))
    have q4 : ∀ (x : Int) (s : S), gMod (.int x) (.int 2147483629) s = .ok (.int (x % 2147483629)) s := fun x s => gMod_int (by decide)
    have q5 : ∀ (x : Int) (s : S), gDiv (.int x) (.int 13) s = .ok (.int (x / 13)) s := fun x s => gDiv_int (by decide) (by decide)
    have q6 : ∀ (x : Int) (s : S), gMul (.int 7919) (.int x) s = .ok (.int (7919 * x)) s := fun x s => gMul_int (.inl (by decide))
    have q7 : ∀ (x : Int) (s : S), gMul (.int x) (.int (k + 1)) s = .ok (.int (x * (k + 1))) s := fun x s => gMul_int (.inr (by omega))
    have q8 : ∀ (x : Int) (s : S), gMul (.int x) (.int 48271) s = .ok (.int (x * 48271)) s := fun x s => gMul_int (.inr (by decide))
    have q9 : ∀ (x : Int) (s : S), gMod (.int x) (.int 2147483587) s = .ok (.int (x % 2147483587)) s := fun x s => gMod_int (by decide)
    have q10 : ∀ (x : Int) (s : S), gDiv (.int x) (.int 64) s = .ok (.int (x / 64)) s := fun x s => gDiv_int (by decide) (by decide)
    have qe : ∀ (s : S), gNe (.lst (xs.map PyData.int)) (.lst []) s = .ok (.bl (!xs.isEmpty)) s := fun s => by
      rw [gNe_da (okD_ints xs) rfl, eqv_nil]
      cases xs <;> rfl
    cases hxs : xs with
    | nil =>
      subst hxs
      have qe0 : ∀ s : S, gNe (.lst []) (.lst []) s = .ok (.bl false) s := fun s => gNe_da rfl rfl
      simp [qe0, ix0 hl, ix1 hl, ix2 hl, ix3 hl, st1 hl, st2 hl, st3 hl, hj, gMod_int hm, gDiv_int hm hm2, p18, q1, q2, q3, q4, q5, q6, q7, q8, q9, q10, qe]
      exact ⟨(fin _).1, (fin _).2, fd_set (xs := []) hl (by simp) (by omega) (by omega) (by omega), same_set⟩
    | cons y ys =>
      have hne : xs ≠ [] := by rw [hxs]; simp
      have hlen : 0 < (xs.length : Int) := by rw [hxs]; simp
      rw [← hxs]
      have qe' : xs.isEmpty = false := by rw [hxs]; rfl
      have ixx : ∀ s : S, gIx (.lst (xs.map PyData.int)) (.int (i % (xs.length : Int))) s = .ok (.int (xs.getD (i % (xs.length : Int)).toNat 0)) s := fun s => by
        have h0 := Int.emod_nonneg i (show (xs.length : Int) ≠ 0 by omega)
        have h1 := Int.emod_lt_of_pos i hlen
        obtain ⟨q, hq⟩ : ∃ q : Nat, i % (xs.length : Int) = q := ⟨(i % (xs.length : Int)).toNat, by omega⟩
        rw [hq]
        have hlt : q < xs.length := by omega
        rw [gIx_lst (p := .int (xs.getD q 0)) (by rw [List.getElem?_map, List.getElem?_eq_getElem hlt, List.getD_eq_getElem?_getD, List.getElem?_eq_getElem hlt]; rfl)]
        rfl
      generalize hcell : xs.getD (i % (xs.length : Int)).toNat 0 = cell at ixx
      have qm : ∀ s : S, gMod (.int i) (.int (xs.length : Int)) s = .ok (.int (i % (xs.length : Int))) s := fun s => gMod_int hlen
      by_cases hb : 1000000000000000000 ≤ cell
      · by_cases hb2 : i + 1 ≤ (xs.length : Int)
        · simp [ix0 hl, ix1 hl, ix2 hl, ix3 hl, st1 hl, st2 hl, st3 hl, hj, gMod_int hm, gDiv_int hm hm2, p18, q1, q2, q3, q4, q5, q6, q7, q8, q9, q10, qe, qe', ixx, qm, hb, hb2]
          exact ⟨(fin _).1, (fin _).2, fd_set hl hx (by omega) (by omega) (by omega), same_set⟩
        · simp [ix0 hl, ix1 hl, ix2 hl, ix3 hl, st1 hl, st2 hl, st3 hl, hj, gMod_int hm, gDiv_int hm hm2, p18, q1, q2, q3, q4, q5, q6, q7, q8, q9, q10, qe, qe', ixx, qm, hb, hb2]
          exact ⟨(fin _).1, (fin _).2, fd_set hl hx (by omega) (by omega) (by omega), same_set⟩
      · simp [ix0 hl, ix1 hl, ix2 hl, ix3 hl, st1 hl, st2 hl, st3 hl, hj, gMod_int hm, gDiv_int hm hm2, p18, q1, q2, q3, q4, q5, q6, q7, q8, q9, q10, qe, qe', ixx, qm, hb]
        exact ⟨(fin _).1, (fin _).2, fd_set hl hx (by omega) (by omega) (by omega), same_set⟩
theorem Fd.le {s : S} {n c c' : Nat} (h : Fd s n c) (hc : c ≤ c') : Fd s n c' := by
  obtain ⟨xs, i, j, k, e, hx, hi, hk, hkc⟩ := h.ex
  exact ⟨xs, i, j, k, e, hx, hi, hk, by omega⟩
theorem Fd.ext {s s' : S} {n c : Nat} (h : Fd s n c) (x : Ext s s') : Fd s' n c := by
  obtain ⟨xs, i, j, k, e, r⟩ := h.ex
  exact ⟨xs, i, j, k, x.get e, r⟩
theorem Fd.set {s : S} {n c k : Nat} {o : O} (h : Fd s n c) (hk : k ≠ n) : Fd (s.set k o) n c := by
  obtain ⟨xs, i, j, q, e, r⟩ := h.ex
  exact ⟨xs, i, j, q, by rw [List.getElem?_set_ne hk]; exact e, r⟩
theorem map_erase {α β : Type} (f : α → β) (l : List α) (k : Nat) : (l.map f).eraseIdx k = (l.eraseIdx k).map f := by
  induction l generalizing k with -- own
  | nil => rfl
  | cons x r ih =>
    cases k with
    | zero => rfl
    | succ k => simp [ih]
theorem perm_erase {α : Type} {l : List α} {k : Nat} {x : α} (h : l[k]? = some x) : (x :: l.eraseIdx k).Perm l := by
  induction l generalizing k with -- own
  | nil => simp at h
  | cons y r ih =>
    cases k with
    | zero => simp at h; subst h; exact List.Perm.refl _
    | succ k =>
      have := ih (k := k) (by simpa using h)
      rw [List.eraseIdx_cons_succ]
      exact (List.Perm.swap y x _).trans (this.cons y)
structure ShufJ (s : S) (n c : Nat) (xs : List PyData) (r : List D) (ρ : En) (s' : S) : Prop where
  ex : ∃ (ls fs : List PyData) (u : Option D) (c' : Nat), ρ = [some (.ref n), some (.lst xs), some (.ref s.length), some (.ref (s.length + 1)), u] ∧ s'[s.length]? = some (.lst (ls.map D.da)) ∧ s'[s.length + 1]? = some (.lst (fs.map D.da)) ∧
    (fs ++ ls).Perm xs ∧ ls.length = r.length ∧ Fd s' n c' ∧ c' + r.length ≤ c + xs.length ∧ Same n s s'
theorem shuf_a {s : S} {xs : List PyData} : gLen [.ref s.length] (s ++ [O.lst (xs.map D.da), O.lst []]) = .ok (.int xs.length) (s ++ [O.lst (xs.map D.da), O.lst []]) := by
  rw [len_ref (ds := xs.map D.da) (by simp), List.length_map]
theorem shuf_b {xs : List PyData} (hx : xs.length ≤ 1000) (s : S) : gRng [.int xs.length] s = .ok (rngD 0 xs.length, none) s := by rw [rng_ok (by omega) (by omega)]; rfl
theorem shuf_c {s : S} {n c : Nat} {xs : List PyData} (h : Fd s n c) : ShufJ s n c xs (rngD 0 xs.length) [some (.ref n), some (.lst xs), some (.ref s.length), some (.ref (s.length + 1)), none] (s ++ [O.lst (xs.map D.da), O.lst []]) :=
  ⟨xs, [], none, c, rfl, by simp, by simp, by simp, by rw [rng_len], h.ext (Ext.add _ _), by rw [rng_len]; omega, (Ext.add _ _).same n⟩
noncomputable def shufB : FS := fDrop (fMt gAppend (fVar 3) (fCons (fMt gPopAt (fVar 2) (fCons (fCall 2 F_law_draw (fCons (fVar 0) (fCons (fCB gLen (fCons (fVar 2) fNil)) fNil))) fNil)) fNil))
theorem shuf_s1 {s s1 : S} {n : Nat} {xs ls fs : List PyData} {d : D} {Q : Fl → S → Prop} (hl : s1[s.length]? = some (.lst (ls.map D.da))) (hf : s1[s.length + 1]? = some (.lst (fs.map D.da)))
    (k : (F_law_draw [.ref n, .int ls.length] s1).W fun i s2 => (gPopAt (.ref s.length) [i] s2).W fun y s3 => (gAppend (.ref (s.length + 1)) [y] s3).W fun _ s4 => Q (.nx [some (.ref n), some (.lst xs), some (.ref s.length), some (.ref (s.length + 1)), some d]) s4) :
    (shufB [some (.ref n), some (.lst xs), some (.ref s.length), some (.ref (s.length + 1)), some d] s1).W Q := by
  have e3 : gLen [.ref s.length] s1 = .ok (.int ls.length) s1 := by rw [len_ref hl, List.length_map]
  unfold shufB
  walk_at "ev"
  rw [e_mt1 hf]
  walk_at "ev"
  rw [e_mt1 hl]
  walk_at "ev"
  rw [e3]
  walk_at "ev"
  simp only [R.W_bindk]
  refine R.W_mono k fun i s2 q => ?_
  walk_at "ev"
  exact q
theorem shuf_s2 {s s1 : S} {n c c' : Nat} {xs ls fs : List PyData} {d : D} {r : List D} (hx : xs.length ≤ 1000) (hc : c + xs.length < 2 ^ 40) (hn : n < s.length) (hl : s1[s.length]? = some (.lst (ls.map D.da))) (hf : s1[s.length + 1]? = some (.lst (fs.map D.da))) (pm : (fs ++ ls).Perm xs) (ln : ls.length = r.length + 1) (fd : Fd s1 n c') (hcc : c' + (r.length + 1) ≤ c + xs.length) (sm : Same n s s1) :
    (F_law_draw [.ref n, .int ls.length] s1).W fun i s2 => (gPopAt (.ref s.length) [i] s2).W fun y s3 => (gAppend (.ref (s.length + 1)) [y] s3).W fun _ s4 => ShufJ s n c xs r [some (.ref n), some (.lst xs), some (.ref s.length), some (.ref (s.length + 1)), some d] s4 := by
  have hpl := pm.length_eq
  rw [List.length_append] at hpl
  refine R.W_mono (draw_ok fd (by omega) (by omega) (by omega)) ?_
  rintro _ s2 ⟨i, rfl, h0, h1, fd2, sm2⟩
  obtain ⟨q, rfl⟩ : ∃ q : Nat, i = (q : Int) := ⟨i.toNat, by omega⟩
  have hq : q < ls.length := by omega
  have l1 : s.length < s1.length := (List.getElem?_eq_some_iff.mp hl).1
  have l2 : s.length + 1 < s1.length := (List.getElem?_eq_some_iff.mp hf).1
  have hl2 : s2[s.length]? = some (.lst (ls.map D.da)) := by rw [sm2.get _ (by omega) l1]; exact hl
  have hf2 : s2[s.length + 1]? = some (.lst (fs.map D.da)) := by rw [sm2.get _ (by omega) l2]; exact hf
  have hq2 : (ls.map D.da)[q]? = some (D.da ls[q]) := by rw [List.getElem?_map, List.getElem?_eq_getElem hq]; rfl
  rw [popAt_ok hl2 hq2 (by rw [List.length_map]; omega), R.W_ok]
  have hf3 : (s2.set s.length (.lst ((ls.map D.da).eraseIdx q)))[s.length + 1]? = some (.lst (fs.map D.da)) := by rw [List.getElem?_set_ne (by omega)]; exact hf2
  rw [append_ok (d := D.da ls[q]) hf3 (by rw [List.length_map]; omega), R.W_ok]
  refine ⟨ls.eraseIdx q, fs ++ [ls[q]], _, c' + 1, rfl, ?_, ?_, ?_, ?_, ?_, by omega, ?_⟩
  · rw [List.getElem?_set_ne (by omega), List.getElem?_set_self (Nat.lt_of_lt_of_le l1 sm2.len), map_erase]
  · rw [List.getElem?_set_self (by simp; exact Nat.lt_of_lt_of_le l2 sm2.len)]
    simp
  · refine List.Perm.trans ?_ pm
    rw [List.append_assoc]
    exact (perm_erase (List.getElem?_eq_getElem hq)).append_left fs
  · rw [List.length_eraseIdx, if_pos hq]; omega
  · exact (fd2.set (by omega)).set (by omega)
  · exact ((sm.trans sm2).own (by omega)).own (by omega)
theorem shuf_ok {s : S} {n c : Nat} {xs : List PyData} (h : Fd s n c) (hx : xs.length ≤ 1000) (hc : c + xs.length < 2 ^ 40) : (F_law_shuffled [.ref n, .lst xs] s).W fun d s' => ∃ ys, d = .lst ys ∧ ys.Perm xs ∧ Fd s' n (c + xs.length) ∧ Same n s s' := by
  rw [e_law_shuffled]; unfold B_law_shuffled
  have hn := h.lt
  walk_at "ev"
  rw [shuf_a]
  walk_at "ev"
  rw [shuf_b hx]
  walk_at "ev"
  simp only [R.W_bindk]
  refine loop_inv (ShufJ s n c xs) ?_ ?_ _ _ _ (shuf_c h)
  · rintro d r ρ s1 ⟨ls, fs, u, c', rfl, hl, hf, pm, ln, fd, hcc, sm⟩
    exact ⟨_, rfl, shuf_s1 hl hf (shuf_s2 hx hc hn hl hf pm ln fd hcc sm)⟩
  · rintro ρ s1 ⟨ls, fs, u, c', rfl, hl, hf, pm, ln, fd, hcc, sm⟩
    have : ls = [] := List.length_eq_zero_iff.mp ln
    subst this
    walk_at "ev"
    rw [frz_ref hf (pures_da fs)]
    walk_at "ev"
    exact ⟨fs, rfl, by rw [List.append_nil] at pm; exact pm, (fd.set (by omega)).le hcc, sm.own (by omega)⟩
end Ln
local macro_rules | `(tactic| walk_at "ev") => `(tactic| try simp only [PF.gAdd_int, PF.gAdd_bool, PF.gSub_int, PF.gSub_bool, PF.gSub_boolR, PF.gLt_int, PF.gLt_str, PF.gLe_int, PF.gGt_int, PF.gGe_int, PF.gIs_non, PF.gIsNot_non, PF.okD_int, PF.okD_bool, PF.okD_none, PF.e_op, PF.e_op1, PF.e_op2, PF.e_c, PF.e_var0, PF.e_var1, PF.e_var2, PF.e_var3, PF.e_var4, PF.e_var5, PF.e_var6, PF.e_var7, PF.e_var8, PF.e_var9, PF.e_var10, PF.e_var11, PF.e_var12, PF.e_seq, PF.e_seqn, PF.e_seqr, PF.e_seqb, PF.e_seqc, PF.e_ret, PF.e_ret1, PF.e_retN, PF.e_next, PF.e_brk, PF.e_cnt, PF.e_drop, PF.e_drop1, PF.e_set, PF.e_ifS, PF.e_ifT, PF.e_ifF, PF.e_if, PF.e_ifET, PF.e_ifEF, PF.e_test, PF.e_test1, PF.e_andT, PF.e_orT, PF.e_notT, PF.e_andT1, PF.e_andT0, PF.e_orT1, PF.e_orT0, PF.e_notT1, PF.e_and, PF.e_or, PF.e_not, PF.e_and1, PF.e_and0, PF.e_or1, PF.e_or0, PF.e_not1, PF.e_chain, PF.e_chain1, PF.e_chain2, PF.e_chain3, PF.e_chain0, PF.e_nil, PF.e_vs, PF.e_cons, PF.e_cons1, PF.e_cons2, PF.e_tup, PF.e_lst, PF.tup0, PF.lst0, PF.lst0n, PF.tup1, PF.tup2, PF.tup3, PF.tup4, PF.lst1, PF.lst2, PF.lst3, PF.lst4, PF.e_sl, PF.e_sl1, PF.e_sl2, PF.e_sl3, PF.e_no, PF.e_some, PF.e_some1, PF.e_rev, PF.e_rev1, PF.e_rev2, PF.e_neg, PF.e_neg1, PF.e_tru, PF.tru_bl, PF.tru_tup, PF.tru_lst, PF.e_cb, PF.e_call, PF.e_call1, PF.e_call2, PF.e_call3, PF.e_call4, PF.e_call5, PF.len_tup, PF.len_lst, PF.min_int, PF.list_tup, PF.list_lst, PF.list_tupN, PF.list_lstN, PF.tuple_tup, PF.tuple_lst, PF.isi_tup, PF.isi_int, PF.isi_bool, PF.isi_str, PF.isi_list, PF.sl_tup, PF.sl_lst, PF.sl_frz, PF.e_bodyr, PF.e_bodyn, PF.e_setIt, PF.e_setIt1, PF.e_setIt2, PF.e_setIt3, PF.e_mt, PF.e_mt2, PF.e_frz, PF.frz_da, PF.e_asg, PF.e_for, PF.e_for1, PF.e_it, PF.it_lst, PF.it_tup, PF.it_con, PF.e_rng, PF.e_zip, PF.zip_lst, PF.loop_nil, PF.loop_nx, PF.loop_ct, PF.loop_bk, PF.loop_rt, PF.e_lc, PF.e_newF, PF.e_newT, PF.comp_nil, PF.comp_t, PF.comp_f, PF.comp_x, PF.e_yes, PF.R.bind_ok', PF.R.W_ok', PF.R.Wk_app, PF.l_set0, PF.l_set1, PF.l_set2, PF.l_set3, PF.l_set4, PF.l_set5, PF.l_set6, PF.l_set7, PF.l_set8, PF.l_set9, PF.l_set10, PF.l_set11, PF.l_set12, PF.l_set13, PF.l_set14, PF.l_set15, PF.l_set16, PF.l_set17, PF.l_set18, PF.l_set19, PF.l_nm0, PF.l_nm1, PF.l_nm2, PF.l_nm3, PF.l_nm4, PF.l_nm5, PF.l_nm6, PF.l_nm7, PF.l_nm8, PF.l_nm9, PF.l_nm10, PF.l_nm11, PF.l_nm12, PF.l_nm13, PF.l_nm14, PF.l_nm15, PF.l_nm16, PF.l_nm17, PF.l_nm18, PF.l_nm19, PF.e_var13, PF.e_var14, PF.e_var15, PF.e_var16, PF.e_var17, PF.e_var18, PF.e_var19, Bool.not_true, Bool.not_false, decide_true, decide_false, Bool.and_true, Bool.and_false, Bool.true_and, Bool.false_and, List.length_append, List.length_cons, List.length_nil, List.append_assoc, List.cons_append, List.nil_append, Nat.zero_add, Nat.reduceAdd, PF.lst5, PF.tup5, PF.lst6, PF.tup6, PF.lst7, PF.tup7, PF.lst8, PF.tup8, PF.lst9, PF.tup9, PF.lst10, PF.tup10, PF.lst11, PF.tup11, PF.lst12, PF.tup12, PF.lstN1, PF.lstN2, PF.lstN3, PF.lstN4, PF.lstN5, PF.lstN6, PF.kLst_da, PF.kTup_da, Nat.reduceLeDiff, PF.it0, PF.il0, PF.it1, PF.il1, PF.it2, PF.il2, PF.it3, PF.il3, PF.it4, PF.il4, PF.it5, PF.il5, if_true, if_false, Bool.false_eq_true])
local macro_rules | `(tactic| walk_at "go") => `(tactic| ((try simp only [PF.gAdd_int, PF.gAdd_bool, PF.gSub_int, PF.gSub_bool, PF.gSub_boolR, PF.gLt_int, PF.gLt_str, PF.gLe_int, PF.gGt_int, PF.gGe_int, PF.gIs_non, PF.gIsNot_non, PF.okD_int, PF.okD_bool, PF.okD_none, PF.e_op, PF.e_op1, PF.e_op2, PF.e_c, PF.e_var0, PF.e_var1, PF.e_var2, PF.e_var3, PF.e_var4, PF.e_var5, PF.e_var6, PF.e_var7, PF.e_var8, PF.e_var9, PF.e_var10, PF.e_var11, PF.e_var12, PF.e_seq, PF.e_seqn, PF.e_seqr, PF.e_seqb, PF.e_seqc, PF.e_ret, PF.e_ret1, PF.e_retN, PF.e_next, PF.e_brk, PF.e_cnt, PF.e_drop, PF.e_drop1, PF.e_set, PF.e_ifS, PF.e_ifT, PF.e_ifF, PF.e_if, PF.e_ifET, PF.e_ifEF, PF.e_test, PF.e_test1, PF.e_andT, PF.e_orT, PF.e_notT, PF.e_andT1, PF.e_andT0, PF.e_orT1, PF.e_orT0, PF.e_notT1, PF.e_and, PF.e_or, PF.e_not, PF.e_and1, PF.e_and0, PF.e_or1, PF.e_or0, PF.e_not1, PF.e_chain, PF.e_chain1, PF.e_chain2, PF.e_chain3, PF.e_chain0, PF.e_nil, PF.e_vs, PF.e_cons, PF.e_cons1, PF.e_cons2, PF.e_tup, PF.e_lst, PF.tup0, PF.lst0, PF.lst0n, PF.tup1, PF.tup2, PF.tup3, PF.tup4, PF.lst1, PF.lst2, PF.lst3, PF.lst4, PF.e_sl, PF.e_sl1, PF.e_sl2, PF.e_sl3, PF.e_no, PF.e_some, PF.e_some1, PF.e_rev, PF.e_rev1, PF.e_rev2, PF.e_neg, PF.e_neg1, PF.e_tru, PF.tru_bl, PF.tru_tup, PF.tru_lst, PF.e_cb, PF.e_call, PF.e_call1, PF.e_call2, PF.e_call3, PF.e_call4, PF.e_call5, PF.len_tup, PF.len_lst, PF.min_int, PF.list_tup, PF.list_lst, PF.list_tupN, PF.list_lstN, PF.tuple_tup, PF.tuple_lst, PF.isi_tup, PF.isi_int, PF.isi_bool, PF.isi_str, PF.isi_list, PF.sl_tup, PF.sl_lst, PF.sl_frz, PF.e_bodyr, PF.e_bodyn, PF.e_setIt, PF.e_setIt1, PF.e_setIt2, PF.e_setIt3, PF.e_mt, PF.e_mt2, PF.e_frz, PF.frz_da, PF.e_asg, PF.e_for, PF.e_for1, PF.e_it, PF.it_lst, PF.it_tup, PF.it_con, PF.e_rng, PF.e_zip, PF.zip_lst, PF.loop_nil, PF.loop_nx, PF.loop_ct, PF.loop_bk, PF.loop_rt, PF.e_lc, PF.e_newF, PF.e_newT, PF.comp_nil, PF.comp_t, PF.comp_f, PF.comp_x, PF.e_yes, PF.R.bind_ok', PF.R.W_ok', PF.R.Wk_app, PF.l_set0, PF.l_set1, PF.l_set2, PF.l_set3, PF.l_set4, PF.l_set5, PF.l_set6, PF.l_set7, PF.l_set8, PF.l_set9, PF.l_set10, PF.l_set11, PF.l_set12, PF.l_set13, PF.l_set14, PF.l_set15, PF.l_set16, PF.l_set17, PF.l_set18, PF.l_set19, PF.l_nm0, PF.l_nm1, PF.l_nm2, PF.l_nm3, PF.l_nm4, PF.l_nm5, PF.l_nm6, PF.l_nm7, PF.l_nm8, PF.l_nm9, PF.l_nm10, PF.l_nm11, PF.l_nm12, PF.l_nm13, PF.l_nm14, PF.l_nm15, PF.l_nm16, PF.l_nm17, PF.l_nm18, PF.l_nm19, PF.e_var13, PF.e_var14, PF.e_var15, PF.e_var16, PF.e_var17, PF.e_var18, PF.e_var19, Bool.not_true, Bool.not_false, decide_true, decide_false, Bool.and_true, Bool.and_false, Bool.true_and, Bool.false_and, List.length_append, List.length_cons, List.length_nil, List.append_assoc, List.cons_append, List.nil_append, Nat.zero_add, Nat.reduceAdd, PF.lst5, PF.tup5, PF.lst6, PF.tup6, PF.lst7, PF.tup7, PF.lst8, PF.tup8, PF.lst9, PF.tup9, PF.lst10, PF.tup10, PF.lst11, PF.tup11, PF.lst12, PF.tup12, PF.lstN1, PF.lstN2, PF.lstN3, PF.lstN4, PF.lstN5, PF.lstN6, PF.kLst_da, PF.kTup_da, Nat.reduceLeDiff, PF.it0, PF.il0, PF.it1, PF.il1, PF.it2, PF.il2, PF.it3, PF.il3, PF.it4, PF.il4, PF.it5, PF.il5, if_true, if_false, Bool.false_eq_true]); (try simp only [PF.R.W_bindk])))
namespace Ln
open PySem L2 PF
def poolAll : List Str := ["a", "b", "c", "d", "e", "f", "g", "h", "net", "end", "within", "place", "last", "to", "table", "ab", "abc", "abcd", "ba", "abcdefgh", "abcdefgi", "zzzzzzzz", "z", "zz", "y", "only", "onlya", "copy", "aa"]
def pools : List (List Str) := [["a", "b", "c", "d", "e", "f", "g", "h"], ["net", "end", "within", "place", "last", "to", "a", "table"], ["a", "ab", "abc", "abcd", "b", "ba", "abcdefgh", "abcdefgi"], ["zzzzzzzz", "z", "zz", "y", "only", "onlya", "copy", "aa"]]
theorem pools_ok : ∀ p ∈ pools, p.length = 8 ∧ p.Nodup ∧ ∀ x ∈ p, okPort x = true := by decide +kernel
theorem cut_from {α : Type} (l : List α) (t : Nat) (h : t ≤ l.length) : cutL l (some (t : Int)) none = l.drop t := by
  unfold cutL
  rw [HT.sIx_nat, HT.sIx_none, Nat.min_eq_left h, List.take_of_length_le (by simp)]
theorem cut_to {α : Type} (l : List α) (t : Nat) : cutL l none (some (t : Int)) = l.take t := by
  unfold cutL
  rw [HT.sIx_nat, HT.sIx_none, List.drop_zero, Nat.sub_zero, List.take_eq_take_iff]
  omega
theorem map_ix {α β : Type} {f : α → β} {l : List α} {k : Nat} {x : α} (h : l[k]? = some x) : (l.map f)[k]? = some (f x) := by rw [List.getElem?_map, h]; rfl
theorem ports_ok {s : S} {n c k : Nat} (h : Fd s n c) (hk : k ≤ 8) (hc : c + 2 < 2 ^ 40) : (F_law_ports [.ref n, .int (k : Int)] s).W fun d s' => ∃ ps : List Str, d = .lst (ps.map PyData.str) ∧ ps.length = k ∧ ps.Nodup ∧ (∀ x ∈ ps, okPort x = true) ∧ Fd s' n (c + 2) ∧ Same n s s' := by
  rw [e_law_ports]; unfold B_law_ports
  have hn := h.lt
  walk_at "ev"
  have g0 : ∀ (x y : D), (s ++ [O.lst [x, y]])[s.length]? = some (O.lst [x, y]) := fun x y => by simp
  rw [e_mt1 (g0 _ _)]
  walk_at "ev"
  rw [append_ok (g0 _ _) (by simp)]
  walk_at "ev"
  have g1 : ∀ (x y z : D), ((s ++ [O.lst [x, y]]).set s.length (O.lst ([x, y] ++ [z]))) = s ++ [O.lst [x, y, z]] := fun x y z => by simp
  have g2 : ∀ (x y z : D), (s ++ [O.lst [x, y, z]])[s.length]? = some (O.lst [x, y, z]) := fun x y z => by simp
  have g3 : ∀ (x y z w : D), ((s ++ [O.lst [x, y, z]]).set s.length (O.lst ([x, y, z] ++ [w]))) = s ++ [O.lst [x, y, z, w]] := fun x y z w => by simp
  simp only [List.cons_append, List.nil_append] at g1 g3
  rw [g1, e_mt1 (g2 _ _ _)]
  walk_at "ev"
  rw [append_ok (g2 _ _ _) (by simp)]
  walk_at "ev"
  rw [g3]
  have e4 : ∀ x : List D, x = pools.map (fun p => D.lst (p.map PyData.str)) → ∀ i : Nat, i < 4 → ∃ p ∈ pools, x[i]? = some (D.lst (p.map PyData.str)) := by
    rintro _ rfl i hi
    have hl : i < pools.length := hi
    exact ⟨pools[i], List.getElem_mem hl, by rw [List.getElem?_map, List.getElem?_eq_getElem hl]; rfl⟩
  generalize hp : ([_, _, _, _] : List D) = P0
  have e5 := e4 P0 (by rw [← hp]; rfl)
  have hP : (s ++ [O.lst P0])[s.length]? = some (O.lst P0) := by simp
  clear hp g0 g1 g2 g3 e4
  walk_at "go"
  refine R.W_mono (draw_ok (h.ext (Ext.add s _)) (by decide) (by decide) (by omega)) ?_
  rintro _ s1 ⟨i, rfl, h0, h1, fd1, sm1⟩
  obtain ⟨q, rfl⟩ : ∃ q : Nat, i = (q : Int) := ⟨i.toNat, by omega⟩
  obtain ⟨p, pm, hp⟩ := e5 q (by omega)
  obtain ⟨pl, pn, pk⟩ := pools_ok p pm
  have hP1 : s1[s.length]? = some (O.lst P0) := by rw [sm1.get _ (by omega) (by simp)]; exact hP
  walk_at "go"
  rw [gIx_ref hP1 hp]
  walk_at "go"
  refine R.W_mono (draw_ok fd1 (by decide) (by decide) (by omega)) ?_
  rintro _ s2 ⟨j, rfl, j0, j1, fd2, sm2⟩
  obtain ⟨t, rfl⟩ : ∃ t : Nat, j = (t : Int) := ⟨j.toNat, by omega⟩
  walk_at "go"
  rw [gAdd_lst (by simp [cutL]; omega)]
  walk_at "go"
  rw [cut_from _ _ (by rw [List.length_map]; omega), cut_to, cut_to, ← List.map_drop, ← List.map_take, ← List.map_append, ← List.map_take]
  refine ⟨_, rfl, ?_, ?_, fun x hx => ?_, fd2, ((Ext.add s _).same n).trans (sm1.trans sm2)⟩
  · simp; omega
  · refine List.Nodup.sublist (List.take_sublist _ _) ?_
    have : (p.drop t ++ p.take t).Perm p := by
      refine List.perm_append_comm.trans ?_
      rw [List.take_append_drop]
    exact this.nodup_iff.mpr pn
  · have := List.mem_of_mem_take hx
    rcases List.mem_append.mp this with z | z
    · exact pk x (List.mem_of_mem_drop z)
    · exact pk x (List.mem_of_mem_take z)
end Ln
namespace Ln
open PySem L2 PF
theorem gEq_str {x y : Str} {s : S} (h1 : okD (.str x) = true) (h2 : okD (.str y) = true) : gEq (.str x) (.str y) s = .ok (.bl (decide (x = y))) s := by
  rw [gEq_da h1 h2]
  have : PyData.eqv (.str x) (.str y) = decide (x = y) := by
    show (x == y) = _
    (rw [Bool.eq_iff_iff, beq_iff_eq, decide_eq_true_eq])
  rw [this]
theorem gEq_lit {x y : Str} {b : Bool} (h : okD (.str x) = true ∧ okD (.str y) = true ∧ decide (x = y) = b) (s : S) : gEq (.str x) (.str y) s = .ok (.bl b) s := by rw [gEq_str h.1 h.2.1, h.2.2]
theorem any_strs {w : Str} : ∀ ss : List Str, ((ss.map PyData.str).any fun d => PyData.eqv d (.str w)) = decide (w ∈ ss)
  | [] => by simp
  | x :: r => by
    rw [List.map_cons, List.any_cons, any_strs r]
    have : PyData.eqv (.str x) (.str w) = decide (x = w) := by
      show (x == w) = _
      (rw [Bool.eq_iff_iff, beq_iff_eq, decide_eq_true_eq])
    rw [this, Bool.eq_iff_iff, Bool.or_eq_true, decide_eq_true_eq, decide_eq_true_eq, decide_eq_true_eq, List.mem_cons]
    exact ⟨fun h => h.imp Eq.symm id, fun h => h.imp Eq.symm id⟩
theorem all_strs {ss : List Str} (h : ∀ x ∈ ss, okD (.str x) = true) : (ss.map PyData.str).all okD = true := by
  rw [List.all_eq_true]
  intro d hd
  obtain ⟨x, hx, rfl⟩ := List.mem_map.mp hd
  exact h x hx
theorem gIn_tupS {w : Str} {ss : List Str} {s : S} (h1 : okD (.str w) = true) (h2 : ∀ x ∈ ss, okD (.str x) = true) : gIn (.str w) (.tup (ss.map PyData.str)) s = .ok (.bl (decide (w ∈ ss))) s := by
  show (if okD (.str w) = true ∧ (ss.map PyData.str).all okD = true then R.ok (D.bl (nb false ((ss.map PyData.str).any fun d => PyData.eqv d (.str w)))) s else .bad) = _
  rw [if_pos ⟨h1, all_strs h2⟩, any_strs]; rfl
theorem gIn_lit {w : Str} (ss : List Str) {l : List PyData} {b : Bool} (e : l = ss.map PyData.str) (h : okD (.str w) = true ∧ (∀ x ∈ ss, okD (.str x) = true) ∧ decide (w ∈ ss) = b) (s : S) : gIn (.str w) (.tup l) s = .ok (.bl b) s := by
  subst e
  rw [gIn_tupS h.1 h.2.1, h.2.2]
theorem okD_port {x : Str} (h : okPort x = true) : okD (.str x) = true := (nice_str h).okD (by decide)
inductive PartD (m : Int) (ps : List Str) : PyData → List Str → Prop
  | two {w a b : Str} : w ∈ (["both", "loose", "drain", "either"] : List Str) → a ∈ ps → b ∈ ps → PartD m ps (.tuple [.str w, .str a, .str b]) [a, b]
  | held {w a b : Str} {x : PyData} : w ∈ (["place", "last"] : List Str) → a ∈ ps → b ∈ ps → (x = .none ∨ ∃ i, x = .int i ∧ 0 ≤ i ∧ i < m) → PartD m ps (.tuple [.str w, .str a, .str b, x]) [a, b]
  | only {a b : Str} {ts : List Int} : a ∈ ps → b ∈ ps → (∀ t ∈ ts, 0 ≤ t ∧ t < m) → ts.length ≤ m → PartD m ps (.tuple [.str "only", .str a, .str b, .tuple (ts.map .int)]) [a, b]
  | copy {a : Str} {bs : List Str} : a ∈ ps → (∀ b ∈ bs, b ∈ ps) → bs.length ≤ 4 → (a :: bs).Nodup → PartD m ps (.tuple [.str "copy", .str a, .tuple (bs.map .str)]) (a :: bs)
  | merge {a : Str} {bs : List Str} : a ∈ ps → (∀ b ∈ bs, b ∈ ps) → bs.length ≤ 4 → (a :: bs).Nodup → PartD m ps (.tuple [.str "merge", .tuple (bs.map .str), .str a]) (bs ++ [a])
def words : List Str := ["both", "loose", "place", "last", "drain", "either", "only", "copy", "merge", "place"]
structure WordIs (w : Str) (b1 b2 b3 b4 : Bool) : Prop where
  i1 : ∀ s, gIn (.str w) (.tup [.str "copy", .str "merge"]) s = .ok (.bl b1) s
  i2 : ∀ s, gEq (.str w) (.str "copy") s = .ok (.bl b2) s
  i3 : ∀ s, gIn (.str w) (.tup [.str "place", .str "last"]) s = .ok (.bl b3) s
  i4 : ∀ s, gEq (.str w) (.str "only") s = .ok (.bl b4) s
  i5 : (b1 = true ∧ b2 = true ∧ w = "copy") ∨ (b1 = true ∧ b2 = false ∧ w = "merge") ∨ (b1 = false ∧ b3 = true ∧ w ∈ (["place", "last"] : List Str)) ∨ (b1 = false ∧ b3 = false ∧ b4 = true ∧ w = "only") ∨ (b1 = false ∧ b3 = false ∧ b4 = false ∧ w ∈ (["both", "loose", "drain", "either"] : List Str))
theorem word_is (w : Str) (h : w ∈ words) : ∃ b1 b2 b3 b4, WordIs w b1 b2 b3 b4 := by
  have h : w = "both" ∨ w = "loose" ∨ w = "place" ∨ w = "last" ∨ w = "drain" ∨ w = "either" ∨ w = "only" ∨ w = "copy" ∨ w = "merge" ∨ w = "place" := by simpa [words] using h
  rcases h with rfl | rfl | rfl | rfl | rfl | rfl | rfl | rfl | rfl | rfl
  · exact ⟨false, false, false, false, gIn_lit ["copy", "merge"] rfl (by decide +kernel), gEq_lit (by decide +kernel), gIn_lit ["place", "last"] rfl (by decide +kernel), gEq_lit (by decide +kernel), by decide⟩
  · exact ⟨false, false, false, false, gIn_lit ["copy", "merge"] rfl (by decide +kernel), gEq_lit (by decide +kernel), gIn_lit ["place", "last"] rfl (by decide +kernel), gEq_lit (by decide +kernel), by decide⟩
  · exact ⟨false, false, true, false, gIn_lit ["copy", "merge"] rfl (by decide +kernel), gEq_lit (by decide +kernel), gIn_lit ["place", "last"] rfl (by decide +kernel), gEq_lit (by decide +kernel), by decide⟩
  · exact ⟨false, false, true, false, gIn_lit ["copy", "merge"] rfl (by decide +kernel), gEq_lit (by decide +kernel), gIn_lit ["place", "last"] rfl (by decide +kernel), gEq_lit (by decide +kernel), by decide⟩
  · exact ⟨false, false, false, false, gIn_lit ["copy", "merge"] rfl (by decide +kernel), gEq_lit (by decide +kernel), gIn_lit ["place", "last"] rfl (by decide +kernel), gEq_lit (by decide +kernel), by decide⟩
  · exact ⟨false, false, false, false, gIn_lit ["copy", "merge"] rfl (by decide +kernel), gEq_lit (by decide +kernel), gIn_lit ["place", "last"] rfl (by decide +kernel), gEq_lit (by decide +kernel), by decide⟩
  · exact ⟨false, false, false, true, gIn_lit ["copy", "merge"] rfl (by decide +kernel), gEq_lit (by decide +kernel), gIn_lit ["place", "last"] rfl (by decide +kernel), gEq_lit (by decide +kernel), by decide⟩
  · exact ⟨true, true, false, false, gIn_lit ["copy", "merge"] rfl (by decide +kernel), gEq_lit (by decide +kernel), gIn_lit ["place", "last"] rfl (by decide +kernel), gEq_lit (by decide +kernel), by decide⟩
  · exact ⟨true, false, false, false, gIn_lit ["copy", "merge"] rfl (by decide +kernel), gEq_lit (by decide +kernel), gIn_lit ["place", "last"] rfl (by decide +kernel), gEq_lit (by decide +kernel), by decide⟩
  · exact ⟨false, false, true, false, gIn_lit ["copy", "merge"] rfl (by decide +kernel), gEq_lit (by decide +kernel), gIn_lit ["place", "last"] rfl (by decide +kernel), gEq_lit (by decide +kernel), by decide⟩
theorem ix_map {α : Type} {f : α → PyData} {l : List α} {k : Nat} {x : α} {s : S} (h : l[k]? = some x) : gIx (.lst (l.map f)) (.int (k : Int)) s = .ok (.da (f x)) s := gIx_lst (map_ix h)
theorem ix_lit {l : List PyData} {i : Int} {x : PyData} {s : S} (k : Nat) (hi : i = (k : Int)) (h : l[k]? = some x) : gIx (.lst l) (.int i) s = .ok (.da x) s := by subst hi; exact gIx_lst h
theorem cut_mid {α : Type} (l : List α) (a b : Nat) : cutL l (some (a : Int)) (some (b : Int)) = (l.drop a).take (min b l.length - min a l.length) := by
  unfold cutL
  rw [HT.sIx_nat, HT.sIx_nat]
  by_cases h : a ≤ l.length
  · rw [Nat.min_eq_left h]
  · rw [List.drop_eq_nil_of_le (by omega), List.drop_eq_nil_of_le (by omega)]
theorem perm_map {α β : Type} {f : α → β} {l : List α} : ∀ {ys : List β}, ys.Perm (l.map f) → ∃ qs : List α, qs.Perm l ∧ qs.map f = ys := by
  intro ys h
  generalize hz : l.map f = zs at h
  induction h generalizing l with
  | nil =>
    cases l with
    | nil => exact ⟨[], .refl _, rfl⟩
    | cons a b => cases hz
  | cons x h ih =>
    cases l with
    | nil => cases hz
    | cons a b =>
      cases hz
      obtain ⟨qs, p, e⟩ := ih rfl
      exact ⟨a :: qs, p.cons a, by rw [List.map_cons, e]⟩
  | swap x y r =>
    match l, hz with
    | a :: b :: c, hz =>
      cases hz
      exact ⟨b :: a :: c, .swap _ _ _, rfl⟩
  | trans h1 h2 ih1 ih2 =>
    obtain ⟨q2, p2, e2⟩ := ih2 hz
    obtain ⟨q1, p1, e1⟩ := ih1 e2
    exact ⟨q1, p1.trans p2, e1⟩
structure OnlyJ (s0 : S) (n c : Nat) (m : Int) (r acc : List D) (s : S) : Prop where
  ex : ∃ ts : List Int, acc = ts.map D.int ∧ (∀ t ∈ ts, 0 ≤ t ∧ t < m) ∧ ts.length + r.length ≤ m ∧ (∀ d ∈ r, ∃ i, d = D.int i ∧ 0 ≤ i ∧ i < m) ∧ ∃ c', Fd s n c' ∧ c' + r.length ≤ c + m.toNat ∧ Same n s0 s
theorem rng_mem {lo : Int} {k : Nat} : ∀ d ∈ rngD lo k, ∃ i, d = D.int i ∧ lo ≤ i ∧ i < lo + k := by
  intro d hd
  obtain ⟨j, hj, e⟩ := List.getElem_of_mem hd
  have hj' : j < k := by rw [rng_len] at hj; exact hj
  have := rng_get k lo j hj'
  rw [List.getElem?_eq_getElem hj, e] at this
  exact ⟨lo + j, Option.some.inj this, by omega, by omega⟩
theorem part_ok {s : S} {n c : Nat} {m : Int} {ps : List Str} (h : Fd s n c) (hm : 1 ≤ m) (hm3 : m ≤ 3) (hp : 2 ≤ ps.length) (hp8 : ps.length ≤ 8) (nd : ps.Nodup) (hc : c + ps.length + 10 < 2 ^ 40) :
    (F_law_part [.ref n, .int m, .lst (ps.map PyData.str)] s).W fun d s' => ∃ p qs, d = .da p ∧ PartD m ps p qs ∧ Fd s' n (c + ps.length + 5) ∧ Same n s s' := by
  rw [e_law_part]; unfold B_law_part
  walk_at "go"
  refine R.W_mono (shuf_ok h (by rw [List.length_map]; omega) (by rw [List.length_map]; omega)) ?_
  rintro _ s1 ⟨ys, rfl, pm, fd1, sm1⟩
  obtain ⟨qs, pmq, rfl⟩ : ∃ qs : List Str, qs.Perm ps ∧ qs.map PyData.str = ys := by
    exact perm_map pm
  have ql := pmq.length_eq
  rw [List.length_map] at fd1
  walk_at "go"
  refine R.W_mono (draw_ok fd1 (by decide) (by decide) (by omega)) ?_
  rintro _ s2 ⟨i, rfl, h0, h1, fd2, sm2⟩
  obtain ⟨k, rfl⟩ : ∃ k : Nat, i = (k : Int) := ⟨i.toNat, by omega⟩
  have hk : k < words.length := by show k < 10; omega
  obtain ⟨b1, b2, b3, b4, W⟩ := word_is words[k] (List.getElem_mem hk)
  generalize hw : words[k] = w at W
  walk_at "go"
  rw [show gIx (.lst [.str "both", .str "loose", .str "place", .str "last", .str "drain", .str "either", .str "only", .str "copy", .str "merge", .str "place"]) (.int (k : Int)) s2 = .ok (.str w) s2 from ix_map (f := PyData.str) (l := words) (x := w) (by rw [List.getElem?_eq_getElem hk, hw])]
  walk_at "ev"
  rw [W.i1]
  obtain ⟨q0, q1, qr, rfl⟩ : ∃ q0 q1 qr, qs = q0 :: q1 :: qr := by
    match qs, ql with
    | [], e => simp at e; omega
    | [_], e => simp at e; omega
    | a :: b :: c, _ => exact ⟨a, b, c, rfl⟩
  have nq : (q0 :: q1 :: qr).Nodup := pmq.nodup_iff.mpr nd
  have m0 : q0 ∈ ps := pmq.mem_iff.mp (by simp)
  have m1 : q1 ∈ ps := pmq.mem_iff.mp (by simp)
  have x0 : ∀ s : S, gIx (.lst ((q0 :: q1 :: qr).map PyData.str)) (.int 0) s = .ok (.str q0) s := fun s => ix_lit 0 rfl rfl
  have x1 : ∀ s : S, gIx (.lst ((q0 :: q1 :: qr).map PyData.str)) (.int 1) s = .ok (.str q1) s := fun s => ix_lit 1 rfl rfl
  have many : b1 = true → ∀ Q : D → S → Prop, (∀ (bs : List Str) (s3 : S), bs.length ≤ 4 → (∀ b ∈ bs, b ∈ ps) → (q0 :: bs).Nodup → Fd s3 n (c + ps.length + 2) → Same n s s3 → Q (.tup (bs.map PyData.str)) s3) →
      (fCB gTuple (fCons (fSl false (fVar 3) (fSome (fC (D.da (PyData.int 1)))) (fSome (fOp (gAdd false) (fC (D.da (PyData.int 2))) (fCall 2 F_law_draw (fCons (fVar 0) (fCons (fCB gMin (fCons (fC (D.da (PyData.int 4))) (fCons (fOp PF.gSub (fCB gLen (fCons (fVar 3) fNil)) (fC (D.da (PyData.int 1)))) fNil))) fNil)))))) fNil)
        [some (.ref n), some (.int m), some (.lst (ps.map PyData.str)), some (.lst ((q0 :: q1 :: qr).map PyData.str)), some (.str w), none] s2).W Q := fun _ Q hQ => by
    walk_at "go"
    refine R.W_mono (draw_ok fd2 (by rw [List.length_map, ql]; split <;> omega) (by rw [List.length_map, ql]; split <;> omega) (by omega)) ?_
    rintro _ s3 ⟨j, rfl, j0, j1, fd3, sm3⟩
    obtain ⟨t, rfl⟩ : ∃ t : Nat, j = (t : Int) := ⟨j.toNat, by omega⟩
    walk_at "go"
    have e2 : (2 : Int) + (t : Int) = ((2 + t : Nat) : Int) := by omega
    have e1 : (1 : Int) = ((1 : Nat) : Int) := rfl
    rw [e2, e1, cutL_map, cut_mid]
    have tb : t < 4 := by
      rw [List.length_map, ql] at j1
      split at j1 <;> omega
    refine hQ _ s3 ?_ ?_ ?_ fd3 (sm1.trans (sm2.trans sm3))
    · rw [List.length_take]; omega
    · intro b hb
      exact pmq.mem_iff.mp (List.mem_of_mem_drop (List.mem_of_mem_take hb))
    · have : (q0 :: ((q0 :: q1 :: qr).drop 1).take (min (2 + t) (q0 :: q1 :: qr).length - min 1 (q0 :: q1 :: qr).length)).Sublist (q0 :: q1 :: qr) := (List.take_sublist _ _).cons₂ q0
      exact this.nodup nq
  clear hw hk
  rcases W.i5 with ⟨rfl, rfl, rfl⟩ | ⟨rfl, rfl, rfl⟩ | ⟨rfl, rfl, hw⟩ | ⟨rfl, rfl, rfl, rfl⟩ | ⟨rfl, rfl, rfl, hw⟩
  · simp only [R.W_ok', R.Wk_app, e_test1, e_ifT, e_seq, e_set, R.W_bindk]
    refine many rfl _ fun bs s3 hl hb hnd fd3 sm3 => ?_
    walk_at "go"
    rw [W.i2]
    walk_at "go"
    rw [x0]
    walk_at "go"
    exact ⟨_, _, rfl, .copy m0 hb hl hnd, fd3.le (by omega), sm3⟩
  · simp only [R.W_ok', R.Wk_app, e_test1, e_ifT, e_seq, e_set, R.W_bindk]
    refine many rfl _ fun bs s3 hl hb hnd fd3 sm3 => ?_
    walk_at "go"
    rw [W.i2]
    walk_at "go"
    rw [x0]
    walk_at "go"
    exact ⟨_, _, rfl, .merge m0 hb hl hnd, fd3.le (by omega), sm3⟩
  · walk_at "go"
    rw [W.i3]
    walk_at "go"
    rw [x0]
    walk_at "go"
    rw [x1]
    walk_at "go"
    refine R.W_mono (draw_ok fd2 (by decide) (by decide) (by omega)) ?_
    rintro _ s3 ⟨j, rfl, j0, j1, fd3, sm3⟩
    obtain ⟨x, hx, hx2⟩ : ∃ x : PyData, (x = .none ∨ ∃ i, x = .int i ∧ 0 ≤ i ∧ i < m) ∧ ∀ s : S, gIx (.lst [.none, .none, .int 0, .int (m - 1)]) (.int j) s = .ok (.da x) s := by
      have : j = 0 ∨ j = 1 ∨ j = 2 ∨ j = 3 := by omega
      rcases this with rfl | rfl | rfl | rfl
      · exact ⟨_, .inl rfl, fun s => ix_lit 0 rfl rfl⟩
      · exact ⟨_, .inl rfl, fun s => ix_lit 1 rfl rfl⟩
      · exact ⟨_, .inr ⟨0, rfl, by omega, by omega⟩, fun s => ix_lit 2 rfl rfl⟩
      · exact ⟨_, .inr ⟨m - 1, rfl, by omega, by omega⟩, fun s => ix_lit 3 rfl rfl⟩
    walk_at "go"
    rw [hx2]
    walk_at "go"
    exact ⟨_, _, rfl, .held hw m0 m1 hx, fd3.le (by omega), sm1.trans (sm2.trans sm3)⟩
  · walk_at "go"
    rw [W.i3]
    walk_at "go"
    rw [W.i4]
    walk_at "go"
    rw [x0]
    walk_at "go"
    rw [x1]
    walk_at "go"
    rw [rng_ok (by omega) (by omega)]
    walk_at "go"
    rw [e_lc1 (ρ0 := [none, some (D.ref n)]) (by rw [rng_len]; omega) rfl]
    simp only [R.W_bindk]
    refine R.W_mono (comp_inv (acc := []) (Q := fun xs s' => ∃ ts : List Int, xs = ts.map D.int ∧ (∀ t ∈ ts, 0 ≤ t ∧ t < m) ∧ ts.length ≤ m ∧ Fd s' n (c + ps.length + 1 + m.toNat) ∧ Same n s s') (OnlyJ s n (c + ps.length + 1) m) ?_ ?_ _ _ ?_) ?_
    · rintro d r acc s3 ⟨ts, rfl, ht, hl, hr, c', fd3, hcc, sm3⟩
      obtain ⟨i, rfl, i0, i1⟩ := hr d List.mem_cons_self
      rw [List.length_cons] at hl hcc
      refine ⟨_, l_nm0, ?_⟩
      walk_at "go"
      refine R.W_mono (draw_ok fd3 (by decide) (by decide) (by omega)) ?_
      rintro _ s4 ⟨j, rfl, j0, j1, fd4, sm4⟩
      walk_at "go"
      split
      · refine ⟨ts ++ [i], by simp, fun t h => ?_, by simp; omega, fun d hd => hr d (List.mem_cons_of_mem _ hd), c' + 1, fd4, by omega, sm3.trans sm4⟩
        rcases List.mem_append.mp h with z | z
        · exact ht t z
        · have : t = i := by simpa using z
          subst this; exact ⟨i0, i1⟩
      · exact ⟨ts, rfl, ht, by omega, fun d hd => hr d (List.mem_cons_of_mem _ hd), c' + 1, fd4, by omega, sm3.trans sm4⟩
    · rintro acc s3 ⟨ts, rfl, ht, hl, hr, c', fd3, hcc, sm3⟩
      simp only [List.length_nil] at hl hcc
      exact ⟨ts, rfl, ht, by omega, fd3.le (by omega), sm3⟩
    · refine ⟨[], rfl, fun t h => (by cases h), by rw [rng_len]; simp; omega, fun d hd => ?_, c + ps.length + 1, fd2, by rw [rng_len]; omega, sm1.trans sm2⟩
      obtain ⟨i, e, i0, i1⟩ := rng_mem d hd
      exact ⟨i, e, i0, by omega⟩
    · rintro xs s3 ⟨ts, e, ht, hl, fd3, sm3⟩
      rw [List.nil_append] at e
      subst e
      rw [show ts.map D.int = (ts.map PyData.int).map D.da by rw [List.map_map]; rfl]
      walk_at "go"
      exact ⟨_, _, rfl, .only m0 m1 ht hl, fd3.le (by omega), sm3⟩
  · walk_at "go"
    rw [W.i3]
    walk_at "go"
    rw [W.i4]
    walk_at "go"
    rw [x0]
    walk_at "go"
    rw [x1]
    walk_at "go"
    exact ⟨_, _, rfl, .two hw m0 m1, fd2.le (by omega), sm1.trans sm2⟩
end Ln
namespace Ln
open PySem L2 PF
structure NetD (d : PyData) (m : Int) (seen : List Str) (parts : List PyData) (ps : List Str) : Prop where
  eq : d = .tuple [.int m, .tuple (seen.map PyData.str), .tuple parts]
  m1 : 1 ≤ m
  m3 : m ≤ 3
  sl : seen.length ≤ 6
  sp : ∀ x ∈ seen, x ∈ ps
  pl : parts.length ≤ 6
  pd : ∀ p ∈ parts, ∃ qs, PartD m ps p qs
  ok : ∀ x ∈ ps, okPort x = true
structure FlatJ (s0 : S) (n c : Nat) (m : Int) (ps : List Str) (N : Nat) (r acc : List D) (s : S) : Prop where
  ex : ∃ parts : List PyData, acc = parts.map D.da ∧ (∀ p ∈ parts, ∃ qs, PartD m ps p qs) ∧ parts.length + r.length ≤ N ∧ ∃ c', Fd s n c' ∧ c' + r.length * 13 ≤ c + N * 13 ∧ Same n s0 s
theorem flat_ok {s : S} {n c : Nat} {ps : List Str} (h : Fd s n c) (hp : 2 ≤ ps.length) (hp8 : ps.length ≤ 8) (nd : ps.Nodup) (ok : ∀ x ∈ ps, okPort x = true) (hc : c + 100 < 2 ^ 40) :
    (F_law_flat [.ref n, .lst (ps.map PyData.str), .int 6] s).W fun d s' => ∃ p m seen parts, d = .da p ∧ NetD p m seen parts ps ∧ Fd s' n (c + 100) ∧ Same n s s' := by
  rw [e_law_flat]; unfold B_law_flat
  walk_at "go"
  refine R.W_mono (draw_ok h (by decide) (by decide) (by omega)) ?_
  rintro _ s1 ⟨i, rfl, i0, i1, fd1, sm1⟩
  generalize hm : 1 + i = m
  walk_at "go"
  rw [hm]
  refine R.W_mono (draw_ok fd1 (by decide) (by decide) (by omega)) ?_
  rintro _ s2 ⟨j, rfl, j0, j1, fd2, sm2⟩
  walk_at "go"
  rw [rng_ok (by omega) (by omega)]
  walk_at "go"
  rw [e_lc1 (ρ0 := [none, some (D.ref n), some (D.int m), some (D.lst (ps.map PyData.str))]) (by rw [rng_len]; omega) rfl]
  simp only [R.W_bindk]
  refine R.W_mono (comp_inv (acc := []) (Q := fun xs s' => ∃ parts : List PyData, xs = parts.map D.da ∧ (∀ p ∈ parts, ∃ qs, PartD m ps p qs) ∧ parts.length ≤ 6 ∧ Fd s' n (c + 80) ∧ Same n s s') (FlatJ s n (c + 2) m ps j.toNat) ?_ ?_ _ _ ?_) ?_
  · rintro d r acc s3 ⟨parts, rfl, hpd, hl, c', fd3, hcc, sm3⟩
    rw [List.length_cons] at hl hcc
    refine ⟨_, l_nm0, ?_⟩
    walk_at "go"
    refine R.W_mono (part_ok fd3 (by omega) (by omega) hp hp8 nd (by omega)) ?_
    rintro _ s4 ⟨p, qs, rfl, hq, fd4, sm4⟩
    refine ⟨parts ++ [p], by simp, fun q h => ?_, by simp; omega, _, fd4, by omega, sm3.trans sm4⟩
    rcases List.mem_append.mp h with z | z
    · exact hpd q z
    · have : q = p := by simpa using z
      subst this; exact ⟨qs, hq⟩
  · rintro acc s3 ⟨parts, rfl, hpd, hl, c', fd3, hcc, sm3⟩
    simp only [List.length_nil] at hl hcc
    exact ⟨parts, rfl, hpd, by omega, fd3.le (by omega), sm3⟩
  · exact ⟨[], rfl, fun p h => (by cases h), by rw [rng_len]; simp, c + 2, fd2, by rw [rng_len]; omega, sm1.trans sm2⟩
  · rintro xs s3 ⟨parts, e, hpd, hl, fd3, sm3⟩
    rw [List.nil_append] at e
    subst e
    walk_at "go"
    refine R.W_mono (shuf_ok fd3 (by rw [List.length_map]; omega) (by rw [List.length_map]; omega)) ?_
    rintro _ s4 ⟨ys, rfl, pm, fd4, sm4⟩
    obtain ⟨qs, pmq, rfl⟩ := perm_map pm
    have ql := pmq.length_eq
    rw [List.length_map] at fd4
    walk_at "go"
    refine R.W_mono (draw_ok fd4 (by rw [List.length_map]; split <;> omega) (by rw [List.length_map]; split <;> omega) (by omega)) ?_
    rintro _ s5 ⟨t, rfl, t0, t1, fd5, sm5⟩
    obtain ⟨k, rfl⟩ : ∃ k : Nat, t = (k : Int) := ⟨t.toNat, by omega⟩
    rw [List.length_map] at t1
    walk_at "go"
    rw [cutL_map, cut_to]
    refine ⟨_, m, qs.take k, parts, rfl, ⟨rfl, by omega, by omega, ?_, fun x hx => pmq.mem_iff.mp (List.mem_of_mem_take hx), hl, hpd, ok⟩, fd5.le (by omega), sm3.trans (sm4.trans sm5)⟩
    rw [List.length_take]
    split at t1 <;> omega
end Ln
namespace PF
open PySem L2
theorem comp_pure {s : S} {ft : FT} {fe : FE} {rest : En} {all : List D} (pr : PyData → Bool) (f : PyData → D) : ∀ (xs : List PyData), (∀ x ∈ xs, ft (some (.da x) :: rest) s = .ok (pr x) s) → (∀ x ∈ xs, pr x = true → fe (some (.da x) :: rest) s = .ok (f x) s) →
    compF (.nm 0) ft fe (none :: rest) (all, none) (xs.map D.da) s = .ok ((xs.filter pr).map f) s
  | [], _, _ => rfl
  | x :: r, h1, h2 => by
    have ih := comp_pure (all := all) pr f r (fun y hy => h1 y (List.mem_cons_of_mem _ hy)) (fun y hy => h2 y (List.mem_cons_of_mem _ hy))
    rw [List.map_cons, comp_cons l_nm0, h1 x List.mem_cons_self, R.bind_ok']
    cases q : pr x with
    | false => rw [comp_f, ih, List.filter_cons_of_neg (by rw [q]; exact Bool.false_ne_true)]
    | true => rw [comp_t, h2 x List.mem_cons_self q, R.bind_ok', comp_x, ih, R.bind_ok', e_cons2, List.filter_cons_of_pos q, List.map_cons]
theorem map_da (f : PyData → PyData) (xs : List PyData) : xs.map (fun x => D.da (f x)) = (xs.map f).map D.da := by rw [List.map_map]; rfl
end PF
namespace Ln
open PySem L2 PF
def wholeD : PyData → Bool
  | .int _ => true
  | _ => false
def thingD (m : Int) : PyData → Bool
  | .int i => decide (0 ≤ i) && decide (i < m)
  | _ => false
def heldD (m : Int) : PyData → Bool
  | .none => true
  | d => thingD m d
theorem v_whole {d : PyData} {s : S} : Fis_whole [.da d] s = .ok (.bl (wholeD d)) s := by
  rw [eis_whole]; unfold Bis_whole
  walk_at "ev"
  cases d <;> simp only [isiD] <;> rfl
theorem v_below {m : Int} {d : PyData} {s : S} : Fis_below [.int m, .da d] s = .ok (.bl (thingD m d)) s := by
  rw [eis_below]; unfold Bis_below
  walk_at "ev"
  rw [v_whole]
  cases d with
  | int i =>
    simp only [wholeD]
    walk_at "ev"
    by_cases h0 : 0 ≤ i
    · simp only [h0, decide_true, thingD]
      walk_at "ev"
    · simp only [h0, decide_false, thingD]
      walk_at "ev"
  | _ => rfl
theorem v_thing {m : Int} {d : PyData} {s : S} : Fis_thing [.int m, .da d] s = .ok (.bl (thingD m d)) s := by
  rw [eis_thing]; unfold Bis_thing
  walk_at "ev"
  rw [v_below]; rfl
theorem v_held {m : Int} {d : PyData} {s : S} : Fis_held [.int m, .da d] s = .ok (.bl (heldD m d)) s := by
  rw [eis_held]; unfold Bis_held
  walk_at "ev"
  cases d with
  | none => rfl
  | _ =>
    show (((kOr _ _ (D.bl false) s).bind kRet).bind kBody) = _
    walk_at "ev"
    rw [v_thing]; rfl
def isHold : PyData → Bool
  | .tuple (.str w :: _) => decide (w ∈ (["place", "last"] : List Str))
  | _ => false
def heldOf : PyData → PyData
  | .tuple [_, _, _, x] => x
  | _ => .none
theorem word_okD : ∀ w ∈ (["both", "loose", "drain", "either", "place", "last", "only", "copy", "merge"] : List Str), okD (.str w) = true := by decide +kernel
theorem PartD.word {m : Int} {ps : List Str} {p : PyData} {qs : List Str} (h : PartD m ps p qs) : ∃ w r, p = .tuple (.str w :: r) ∧ w ∈ (["both", "loose", "drain", "either", "place", "last", "only", "copy", "merge"] : List Str) := by
  cases h with
  | two hw => exact ⟨_, _, rfl, by revert hw; simp only [List.mem_cons, List.not_mem_nil, or_false]; rintro (rfl | rfl | rfl | rfl) <;> simp⟩
  | held hw => exact ⟨_, _, rfl, by revert hw; simp only [List.mem_cons, List.not_mem_nil, or_false]; rintro (rfl | rfl) <;> simp⟩
  | only => exact ⟨_, _, rfl, by simp⟩
  | copy => exact ⟨_, _, rfl, by simp⟩
  | merge => exact ⟨_, _, rfl, by simp⟩
theorem notHold : ∀ w ∈ (["both", "loose", "drain", "either", "only", "copy", "merge"] : List Str), decide (w ∈ (["place", "last"] : List Str)) = false := by decide +kernel
theorem PartD.hold {m : Int} {ps : List Str} {p : PyData} {qs : List Str} (h : PartD m ps p qs) (hh : isHold p = true) : ∃ w a b x, p = .tuple [.str w, .str a, .str b, x] ∧ heldOf p = x ∧ (x = .none ∨ ∃ i, x = .int i ∧ 0 ≤ i ∧ i < m) := by
  cases h with
  | @two w a b hw =>
    have : w ∈ (["both", "loose", "drain", "either", "only", "copy", "merge"] : List Str) := by
      revert hw; simp only [List.mem_cons, List.not_mem_nil, or_false]
      rintro (rfl | rfl | rfl | rfl) <;> simp
    have e : isHold (.tuple [.str w, .str a, .str b]) = false := notHold w this
    rw [e] at hh; cases hh
  | held hw _ _ hx => exact ⟨_, _, _, _, rfl, rfl, hx⟩
  | only => exact absurd (hh.symm.trans (notHold "only" (by simp))) (by decide)
  | copy => exact absurd (hh.symm.trans (notHold "copy" (by simp))) (by decide)
  | merge => exact absurd (hh.symm.trans (notHold "merge" (by simp))) (by decide)
theorem gIn_con {w : Str} {ss : List Str} {s : S} (h1 : okD (.str w) = true) (h2 : ∀ x ∈ ss, okD (.str x) = true) : gIn (.str w) (.con (ss.map PyData.str)) s = .ok (.bl (decide (w ∈ ss))) s := by
  show (if okD (.str w) = true ∧ (ss.map PyData.str).all okD = true then R.ok (D.bl (nb false ((ss.map PyData.str).any fun d => PyData.eqv d (.str w)))) s else .bad) = _
  rw [if_pos ⟨h1, all_strs h2⟩, any_strs]; rfl
theorem v_hold {m : Int} {ps : List Str} {seen : PyData} {parts : List PyData} {s : S} (hp : ∀ p ∈ parts, ∃ qs, PartD m ps p qs) (hl : parts.length ≤ 1000) : Fholding_parts [.tup [.int m, seen, .tuple parts]] s = .ok (.lst (parts.filter isHold)) s := by
  rw [eholding_parts]; unfold Bholding_parts
  walk_at "ev"
  rw [e_lc1 (ρ0 := [none]) (by rw [List.length_map]; omega) rfl, comp_pure (rest := []) isHold (fun x => .da x)]
  · walk_at "ev"
  · intro p hm
    obtain ⟨qs, h⟩ := hp p hm
    obtain ⟨w, r, rfl, hw⟩ := h.word
    walk_at "ev"
    rw [gIn_con (ss := ["place", "last"]) (word_okD w hw) (by decide +kernel)]
    walk_at "ev"
    rfl
  · intro p hm _
    walk_at "ev"
theorem v_first {m : Int} {ps : List Str} {seen : PyData} {parts : List PyData} {s : S} (hp : ∀ p ∈ parts, ∃ qs, PartD m ps p qs) (hl : parts.length ≤ 1000) : Ffirst_stand [.tup [.int m, seen, .tuple parts]] s = .ok (.tup ((parts.filter isHold).map heldOf)) s := by
  rw [efirst_stand]; unfold Bfirst_stand
  walk_at "ev"
  rw [v_hold hp hl]
  walk_at "ev"
  rw [e_lc1 (ρ0 := [none]) (by rw [List.length_map]; exact Nat.le_trans (List.length_filter_le _ _) (by omega)) rfl, comp_pure (rest := []) (fun _ => true) (fun x => .da (heldOf x))]
  · rw [List.filter_eq_self.mpr (fun _ _ => rfl), map_da]
    walk_at "ev"
  · intro p hm
    walk_at "ev"
  · intro p hm _
    (obtain ⟨hm1, hm2⟩ := List.mem_filter.mp hm)
    obtain ⟨qs, h⟩ := hp p hm1
    obtain ⟨w, a, b, x, rfl, e, _⟩ := h.hold hm2
    walk_at "ev"
    rfl
def standD (m : Int) (k : Nat) : PyData → Bool
  | .tuple ds => decide (ds.length = k) && ds.all (heldD m)
  | _ => false
end Ln
namespace PF
open PySem L2
theorem bls_map : ∀ bs : List Bool, blsD (bs.map D.bl) = some bs
  | [] => rfl
  | b :: r => by rw [List.map_cons, blsD, bls_map r]
theorem all_lst {bs : List Bool} {s : S} : gAll [.lst (bs.map PyData.bool)] s = .ok (.bl (bs.all id)) s := by
  show (match (some ((bs.map PyData.bool).map D.da)).bind blsD with | some bs => R.ok (D.bl (bs.all id)) s | none => .bad) = _
  rw [show (bs.map PyData.bool).map D.da = bs.map D.bl by rw [List.map_map]; rfl]
  show (match blsD (bs.map D.bl) with | some bs => R.ok (D.bl (bs.all id)) s | none => .bad) = _
  rw [bls_map]
theorem all_map {xs : List PyData} {f : PyData → Bool} {s : S} : gAll [.lst (xs.map fun x => .bool (f x))] s = .ok (.bl (xs.all f)) s := by
  have : xs.map (fun x => PyData.bool (f x)) = (xs.map f).map PyData.bool := by rw [List.map_map]; rfl
  rw [this, all_lst, List.all_map]; rfl
theorem eqv_int (i j : Int) : PyData.eqv (.int i) (.int j) = decide (i = j) := by
  show (i == j) = _
  (rw [Bool.eq_iff_iff, beq_iff_eq, decide_eq_true_eq])
theorem gNe_int {i j : Int} {s : S} : gNe (.int i) (.int j) s = .ok (.bl (!decide (i = j))) s := by rw [gNe_da rfl rfl, eqv_int]
theorem gEq_int {i j : Int} {s : S} : gEq (.int i) (.int j) s = .ok (.bl (decide (i = j))) s := by rw [gEq_da rfl rfl, eqv_int]
end PF
namespace Ln
open PySem L2 PF
theorem v_stand {m : Int} {ps : List Str} {seen : PyData} {parts : List PyData} {d : PyData} {s : S} (hp : ∀ p ∈ parts, ∃ qs, PartD m ps p qs) (hl : parts.length ≤ 1000) (hd : ∀ ds, d = .tuple ds → ds.length ≤ 1000) :
    Fis_stand [.tup [.int m, seen, .tuple parts], .da d] s = .ok (.bl (standD m (parts.filter isHold).length d)) s := by
  rw [eis_stand]; unfold Bis_stand
  walk_at "ev"
  by_cases ht : ∃ ds, d = .tuple ds
  · obtain ⟨ds, rfl⟩ := ht
    have hl2 := hd ds rfl
    rw [show isiD (.tuple ds) "tuple" = true from rfl]
    walk_at "ev"
    rw [v_hold hp hl]
    walk_at "ev"
    rw [gNe_int]
    by_cases he : ds.length = (parts.filter isHold).length
    · rw [show (!decide ((ds.length : Int) = ((parts.filter isHold).length : Int))) = false by simp [he]]
      walk_at "ev"
      rw [e_lc1 (ρ0 := [none, some (.tup [.int m, seen, .tuple parts])]) (by rw [List.length_map]; omega) rfl, comp_pure (rest := [some (.tup [.int m, seen, .tuple parts])]) (fun _ => true) (fun x => .bl (heldD m x))]
      · rw [List.filter_eq_self.mpr (fun _ _ => rfl), show ds.map (fun x => D.bl (heldD m x)) = (ds.map fun x => PyData.bool (heldD m x)).map D.da by rw [List.map_map]; rfl]
        walk_at "ev"
        rw [all_map]
        show R.ok (D.bl (ds.all (heldD m))) s = R.ok (D.bl (decide _ && _)) s
        rw [he, decide_eq_true rfl, Bool.true_and]
      · intro x _
        walk_at "ev"
      · intro x _ _
        walk_at "ev"
        rw [v_held]
    · rw [show (!decide ((ds.length : Int) = ((parts.filter isHold).length : Int))) = true by simp; omega]
      walk_at "ev"
      show _ = R.ok (D.bl (decide _ && _)) s
      rw [decide_eq_false he, Bool.false_and]
  · have e : isiD d "tuple" = false := by cases d <;> first | rfl | exact absurd ⟨_, rfl⟩ ht
    rw [e]
    walk_at "ev"
    have e2 : standD m (parts.filter isHold).length d = false := by cases d <;> first | rfl | exact absurd ⟨_, rfl⟩ ht
    rw [e2]
theorem v_lthing {m : Int} {r : List PyData} {d : PyData} {s : S} : F_law_is_thing [.tup (.int m :: r), .da d] s = .ok (.bl (thingD m d)) s := by
  rw [e_law_is_thing]; unfold B_law_is_thing
  walk_at "ev"
  cases d with
  | int i =>
    simp only [thingD]
    rw [show isiD (.int i) "int" = true from rfl]
    walk_at "ev"
    rw [show isiD (.int i) "bool" = false from rfl]
    walk_at "ev"
    by_cases h0 : 0 ≤ i
    · simp only [h0, decide_true]
      walk_at "ev"
    · simp only [h0, decide_false]
      walk_at "ev"
  | _ => rfl
theorem gIn_lit2 {w : Str} {s : S} (h : okD (.str w) = true) : gIn (.str w) (.tup [.str "place", .str "last"]) s = .ok (.bl (decide (w ∈ (["place", "last"] : List Str)))) s := gIn_tupS (ss := ["place", "last"]) h (by decide +kernel)
theorem not_heldD (m : Int) (x : PyData) : (!isN (.da x) && !thingD m x) = !heldD m x := by cases x <;> rfl
theorem gEq_nil {xs : List PyData} {s : S} (h : okD (.list xs) = true) : gEq (.lst xs) (.lst []) s = .ok (.bl xs.isEmpty) s := by rw [gEq_da h rfl, eqv_nil]
theorem filt_nil {α : Type} (p : α → Bool) (xs : List α) : (xs.filter fun x => !p x).isEmpty = xs.all p := by
  induction xs with
  | nil => rfl
  | cons x r ih =>
    rw [List.all_cons]
    cases h : p x with
    | true => rw [List.filter_cons_of_neg (by simp [h]), ih]; rfl
    | false => rw [List.filter_cons_of_pos (by simp [h])]; rfl
theorem v_lstand {m : Int} {ps : List Str} {seen : PyData} {parts : List PyData} {d : PyData} {s : S} (hp : ∀ p ∈ parts, ∃ qs, PartD m ps p qs) (hl : parts.length ≤ 1000) (hd : ∀ ds, d = .tuple ds → ds.length ≤ 1000 ∧ ∀ xs : List PyData, xs.Sublist ds → okD (.list xs) = true) :
    F_law_is_stand [.tup [.int m, seen, .tuple parts], .da d] s = .ok (.bl (standD m (parts.filter isHold).length d)) s := by
  rw [e_law_is_stand]; unfold B_law_is_stand
  walk_at "ev"
  rw [e_lc1 (ρ0 := [none]) (by rw [List.length_map]; omega) rfl, comp_pure (rest := []) isHold (fun x => .da x)]
  · walk_at "ev"
    by_cases ht : ∃ ds, d = .tuple ds
    · obtain ⟨ds, rfl⟩ := ht
      obtain ⟨hl2, hok⟩ := hd ds rfl
      rw [show isiD (.tuple ds) "tuple" = true from rfl]
      walk_at "ev"
      rw [gNe_int]
      by_cases he : ds.length = (parts.filter isHold).length
      · rw [show (!decide ((ds.length : Int) = ((parts.filter isHold).length : Int))) = false by simp [he]]
        walk_at "ev"
        rw [e_lc1 (ρ0 := [none, some (.tup [.int m, seen, .tuple parts])]) (by rw [List.length_map]; omega) rfl, comp_pure (rest := [some (.tup [.int m, seen, .tuple parts])]) (fun x => !heldD m x) (fun x => .da x)]
        · walk_at "ev"
          rw [gEq_nil (hok _ List.filter_sublist), filt_nil]
          walk_at "ev"
          show _ = R.ok (D.bl (decide _ && _)) s
          rw [he, decide_eq_true rfl, Bool.true_and]
        · intro x _
          walk_at "ev"
          rw [← not_heldD]
          cases hx : isN (.da x) with
          | true => walk_at "ev"
          | false =>
            walk_at "ev"
            rw [v_lthing]
            walk_at "ev"
        · intro x _ _
          walk_at "ev"
      · rw [show (!decide ((ds.length : Int) = ((parts.filter isHold).length : Int))) = true by simp; omega]
        walk_at "ev"
        show _ = R.ok (D.bl (decide _ && _)) s
        rw [decide_eq_false he, Bool.false_and]
    · have e : isiD d "tuple" = false := by cases d <;> first | rfl | exact absurd ⟨_, rfl⟩ ht
      rw [e]
      walk_at "ev"
      have e2 : standD m (parts.filter isHold).length d = false := by cases d <;> first | rfl | exact absurd ⟨_, rfl⟩ ht
      rw [e2]
  · intro p hm
    obtain ⟨qs, h⟩ := hp p hm
    obtain ⟨w, r, rfl, hw⟩ := h.word
    walk_at "ev"
    rw [gIn_lit2 (word_okD w hw)]
    walk_at "ev"
    rfl
  · intro p hm _
    walk_at "ev"
end Ln
namespace Ln
open PySem L2 PF
def strsP (ds : List PyData) : List Str := ds.filterMap fun d => match d with
  | .str x => some x
  | _ => none
theorem strsP_map (xs : List Str) : strsP (xs.map PyData.str) = xs := by
  induction xs with
  | nil => rfl
  | cons x r ih =>
    show x :: strsP (r.map PyData.str) = _
    rw [ih]
def portsP : PyData → List Str
  | .tuple (.str _ :: .str a :: .str b :: _) => [a, b]
  | .tuple [.str _, .str a, .tuple bs] => a :: strsP bs
  | .tuple [.str _, .tuple bs, .str a] => strsP bs ++ [a]
  | _ => []
theorem PartD.ports {m : Int} {ps : List Str} {p : PyData} {qs : List Str} (h : PartD m ps p qs) : portsP p = qs := by
  cases h with
  | two => rfl
  | held => rfl
  | only => rfl
  | copy => simp only [portsP, strsP_map]
  | merge => simp only [portsP, strsP_map]
theorem PartD.len {m : Int} {ps : List Str} {p : PyData} {qs : List Str} (h : PartD m ps p qs) : qs.length ≤ 5 := by
  cases h with
  | two => simp
  | held => simp
  | only => simp
  | copy _ _ hl => simp; omega
  | merge _ _ hl => simp; omega
theorem PartD.sub {m : Int} {ps : List Str} {p : PyData} {qs : List Str} (h : PartD m ps p qs) : ∀ x ∈ qs, x ∈ ps := by
  cases h with
  | two _ ha hb => intro x hx; simp at hx; rcases hx with rfl | rfl <;> assumption
  | held _ ha hb => intro x hx; simp at hx; rcases hx with rfl | rfl <;> assumption
  | only ha hb => intro x hx; simp at hx; rcases hx with rfl | rfl <;> assumption
  | copy ha hb =>
    intro x hx
    rcases List.mem_cons.mp hx with rfl | z
    · exact ha
    · exact hb x z
  | merge ha hb =>
    intro x hx
    rcases List.mem_append.mp hx with z | z
    · exact hb x z
    · rw [List.mem_singleton] at z
      subst z; exact ha
structure EqW (w : Str) (a b c : Bool) : Prop where
  i1 : ∀ s, gEq (.str w) (.str "copy") s = .ok (.bl a) s
  i2 : ∀ s, gEq (.str w) (.str "merge") s = .ok (.bl b) s
  i3 : ∀ s, gEq (.str w) (.str "net") s = .ok (.bl c) s
theorem eqw2 (w : Str) (h : w ∈ (["both", "loose", "drain", "either", "place", "last", "only"] : List Str)) : EqW w false false false := by
  have : ∀ w ∈ (["both", "loose", "drain", "either", "place", "last", "only"] : List Str), (okD (.str w) = true ∧ okD (.str "copy") = true ∧ decide (w = "copy") = false) ∧ (okD (.str w) = true ∧ okD (.str "merge") = true ∧ decide (w = "merge") = false) ∧ (okD (.str w) = true ∧ okD (.str "net") = true ∧ decide (w = "net") = false) := by decide +kernel
  obtain ⟨a, b, c⟩ := this w h
  exact ⟨gEq_lit a, gEq_lit b, gEq_lit c⟩
theorem eqwc : EqW "copy" true false false := ⟨gEq_lit (by decide +kernel), gEq_lit (by decide +kernel), gEq_lit (by decide +kernel)⟩
theorem eqwm : EqW "merge" false true false := ⟨gEq_lit (by decide +kernel), gEq_lit (by decide +kernel), gEq_lit (by decide +kernel)⟩
theorem cut13 {α : Type} (w a b : α) (r : List α) : cutL (w :: a :: b :: r) (some 1) (some 3) = [a, b] := by
  rw [show (some (1 : Int)) = some ((1 : Nat) : Int) from rfl, show (some (3 : Int)) = some ((3 : Nat) : Int) from rfl, cut_mid]
  simp
theorem v_ports {m : Int} {ps : List Str} {p : PyData} {qs : List Str} {s : S} (h : PartD m ps p qs) : Fports_of [.da p] s = .ok (.tup (qs.map PyData.str)) s := by
  rw [eports_of]; unfold Bports_of
  cases h with
  | @two w a b hw =>
    have E := eqw2 w (by revert hw; simp only [List.mem_cons, List.not_mem_nil, or_false]; rintro (rfl | rfl | rfl | rfl) <;> simp)
    walk_at "ev"
    rw [E.i1]; walk_at "ev"
    rw [E.i2]; walk_at "ev"
    rw [E.i3]; walk_at "ev"
    rw [cut13]; rfl
  | @held w a b x hw =>
    have E := eqw2 w (by revert hw; simp only [List.mem_cons, List.not_mem_nil, or_false]; rintro (rfl | rfl) <;> simp)
    walk_at "ev"
    rw [E.i1]; walk_at "ev"
    rw [E.i2]; walk_at "ev"
    rw [E.i3]; walk_at "ev"
    rw [cut13]; rfl
  | only =>
    have E := eqw2 "only" (by simp)
    walk_at "ev"
    rw [E.i1]; walk_at "ev"
    rw [E.i2]; walk_at "ev"
    rw [E.i3]; walk_at "ev"
    rw [cut13]; rfl
  | copy _ _ hl =>
    walk_at "ev"
    rw [eqwc.i1]; walk_at "ev"
    rw [gAdd_tup (by simp; omega)]; walk_at "ev"
    rfl
  | merge _ _ hl =>
    walk_at "ev"
    rw [eqwm.i1]; walk_at "ev"
    rw [eqwm.i2]; walk_at "ev"
    rw [gAdd_tup (by simp; omega)]; walk_at "ev"
    simp
def allP (seen : List Str) (parts : List PyData) : List Str := seen ++ (parts.map portsP).flatten
theorem allP_len {m : Int} {ps seen : List Str} : ∀ {parts : List PyData}, (∀ p ∈ parts, ∃ qs, PartD m ps p qs) → (allP seen parts).length ≤ seen.length + 5 * parts.length
  | [], _ => by simp [allP]
  | p :: r, h => by
    have ih := allP_len (seen := seen) (parts := r) fun q hq => h q (List.mem_cons_of_mem _ hq)
    obtain ⟨qs, hq⟩ := h p List.mem_cons_self
    have := hq.len
    simp only [allP, List.map_cons, List.flatten_cons, List.length_append, List.length_cons, hq.ports] at ih ⊢
    omega
theorem allP_snoc (seen : List Str) (parts : List PyData) (p : PyData) : allP seen (parts ++ [p]) = allP seen parts ++ portsP p := by simp [allP]
theorem allP_sub {m : Int} {ps seen : List Str} {parts : List PyData} (hs : ∀ x ∈ seen, x ∈ ps) (h : ∀ p ∈ parts, ∃ qs, PartD m ps p qs) : ∀ x ∈ allP seen parts, x ∈ ps := by
  intro x hx
  rcases List.mem_append.mp hx with z | z
  · exact hs x z
  · obtain ⟨l, hl, hxl⟩ := List.mem_flatten.mp z
    (obtain ⟨p, hp, rfl⟩ := List.mem_map.mp hl)
    obtain ⟨qs, hq⟩ := h p hp
    rw [hq.ports] at hxl
    exact hq.sub x hxl
def namesD (seen : List Str) (parts : List PyData) : List Str := srtS (uniq (allP seen parts))
theorem sortset_ref {s : S} {n : Nat} {ss : List Str} (h : s[n]? = some (.lst (ss.map D.str))) (hl : ss.length < 64) : gSortSet false [.ref n] s = .ok (.lst ((srtS (uniq ss)).map PyData.str)) s := by
  show (match (match s[n]? with | some (O.lst ds) => some ds | _ => none).bind strsD with | some ss => (if ss.length < 4000 ∧ (uniq ss).length < 64 then newL false ((srtS (uniq ss)).map D.str) s else .bad) | none => .bad) = _
  rw [h]
  show (match strsD (ss.map D.str) with | some ss => (if ss.length < 4000 ∧ (uniq ss).length < 64 then newL false ((srtS (uniq ss)).map D.str) s else .bad) | none => .bad) = _
  rw [strsD_map]
  show (if ss.length < 4000 ∧ (uniq ss).length < 64 then newL false ((srtS (uniq ss)).map D.str) s else .bad) = _
  have := (uniq_facts ss).2.2
  rw [if_pos ⟨by omega, by omega⟩]
  show (match pures ((srtS (uniq ss)).map D.str) with | some xs => R.ok (D.lst xs) s | none => .bad) = _
  rw [show (srtS (uniq ss)).map D.str = ((srtS (uniq ss)).map PyData.str).map D.da by rw [List.map_map]; rfl, pures_da]
structure PinJ (s0 : S) (seen : List Str) (parts : List PyData) (net : D) (r : List D) (ρ : En) (s : S) : Prop where
  ex : ∃ (done left : List PyData) (u : Option D), parts = done ++ left ∧ r = left.map D.da ∧ ρ = [some net, some (.ref s0.length), u] ∧ s = s0 ++ [O.lst ((allP seen done).map D.str)]
theorem v_ports_in {m : Int} {ps seen : List Str} {parts : List PyData} {s : S} (hp : ∀ p ∈ parts, ∃ qs, PartD m ps p qs) (hl : parts.length ≤ 6) (hs : seen.length ≤ 6) :
    (Fports_in [.tup [.int m, .tuple (seen.map PyData.str), .tuple parts]] s).W fun d s' => d = .tup ((namesD seen parts).map PyData.str) ∧ Ext s s' := by
  rw [eports_in]; unfold Bports_in
  walk_at "go"
  refine loop_inv (PinJ s seen parts (.tup [.int m, .tuple (seen.map PyData.str), .tuple parts])) ?_ ?_ _ _ _ ⟨[], parts, none, rfl, rfl, rfl, ?_⟩
  · rintro d r ρ s1 ⟨done, left, u, e1, e2, rfl, rfl⟩
    cases left with
    | nil => cases e2
    | cons p left =>
      cases e2
      refine ⟨_, l_nm2, ?_⟩
      obtain ⟨qs, hq⟩ := hp p (by rw [e1]; simp)
      have g0 : (s ++ [O.lst ((allP seen done).map D.str)])[s.length]? = some (O.lst ((allP seen done).map D.str)) := by simp
      have hlen := allP_len (seen := seen) (parts := done) fun q hq => hp q (by rw [e1]; exact List.mem_append_left _ hq)
      have hd : done.length ≤ parts.length := by rw [e1]; simp
      have hql := hq.len
      walk_at "ev"
      rw [e_mt1 g0]
      walk_at "ev"
      rw [v_ports hq]
      walk_at "ev"
      rw [extend_tup g0 (by simp; omega)]
      walk_at "go"
      refine ⟨done ++ [p], left, _, by rw [e1]; simp, rfl, rfl, ?_⟩
      rw [allP_snoc, hq.ports]
      simp
  · rintro ρ s1 ⟨done, left, u, e1, e2, rfl, rfl⟩
    cases left with
    | cons p left => cases e2
    | nil =>
      rw [List.append_nil] at e1
      subst e1
      have hlen := allP_len (seen := seen) hp
      have g0 : (s ++ [O.lst ((allP seen parts).map D.str)])[s.length]? = some (O.lst ((allP seen parts).map D.str)) := by simp
      walk_at "go"
      rw [sortset_ref g0 (by omega)]
      walk_at "go"
      exact ⟨rfl, Ext.add _ _⟩
  · simp [allP]
structure NamJ (s0 : S) (seen : List Str) (parts : List PyData) (net : D) (r : List D) (ρ : En) (s : S) : Prop where
  ex : ∃ (done left : List PyData) (u v : Option D), parts = done ++ left ∧ r = left.map D.da ∧ ρ = [some net, some (.ref s0.length), u, v] ∧ s = s0 ++ [O.lst ((allP seen done).map D.str)]
def exB : FS := fDrop (fMt gExtend (fVar 1) (fCons (fIf (fTru (fCB gIsi (fCons (fVar 3) (fCons (fC (.ty "str")) fNil)))) (fLst false (fCons (fVar 3) fNil)) (fIf (fTru (fCB gIsi (fCons (fVar 3) (fCons (fC (.ty "tuple")) fNil)))) (fCB (gList false) (fCons (fVar 3) fNil)) (fLst false fNil))) fNil))
theorem snoc_get {α : Type} (s : List α) (o : α) : (s ++ [o])[s.length]? = some o := by simp
theorem snoc_set {α : Type} (s : List α) (o u : α) : (s ++ [o]).set s.length u = s ++ [u] := by simp
theorem ex_str {s : S} {net : D} {p : PyData} {x : Str} {l : List D} (hl : l.length ≤ 2000) : exB [some net, some (.ref s.length), some (.da p), some (.str x)] (s ++ [O.lst l]) = .ok (.nx [some net, some (.ref s.length), some (.da p), some (.str x)]) (s ++ [O.lst (l ++ [.str x])]) := by
  unfold exB
  walk_at "ev"
  rw [e_mt1 (snoc_get _ _)]
  walk_at "ev"
  rw [show isiD (.str x) "str" = true from rfl]
  walk_at "ev"
  rw [extend_lst (snoc_get _ _) (by simp; omega)]
  walk_at "ev"
  rw [snoc_set]; rfl
theorem ex_tup {s : S} {net : D} {p : PyData} {bs : List Str} {l : List D} (hl : l.length ≤ 2000) (hb : bs.length ≤ 2000) : exB [some net, some (.ref s.length), some (.da p), some (.tup (bs.map PyData.str))] (s ++ [O.lst l]) = .ok (.nx [some net, some (.ref s.length), some (.da p), some (.tup (bs.map PyData.str))]) (s ++ [O.lst (l ++ bs.map D.str)]) := by
  unfold exB
  walk_at "ev"
  rw [e_mt1 (snoc_get _ _)]
  walk_at "ev"
  rw [show isiD (.tuple (bs.map PyData.str)) "str" = false from rfl]
  walk_at "ev"
  rw [show isiD (.tuple (bs.map PyData.str)) "tuple" = true from rfl]
  walk_at "ev"
  rw [extend_lst (snoc_get _ _) (by simp; omega)]
  walk_at "ev"
  rw [snoc_set, List.map_map]; rfl
theorem nam_two {s : S} {net : D} {p a b : PyData} {x y l : List D} {v : Option D} (h1 : exB [some net, some (.ref s.length), some (.da p), some (.da a)] (s ++ [O.lst l]) = .ok (.nx [some net, some (.ref s.length), some (.da p), some (.da a)]) (s ++ [O.lst (l ++ x)]))
    (h2 : exB [some net, some (.ref s.length), some (.da p), some (.da b)] (s ++ [O.lst (l ++ x)]) = .ok (.nx [some net, some (.ref s.length), some (.da p), some (.da b)]) (s ++ [O.lst ((l ++ x) ++ y)])) {w : PyData} {r : List PyData} (hp : p = .tuple (w :: a :: b :: r)) :
    fFor (fIt (fSl false (fVar 2) (fSome (fC (D.da (PyData.int 1)))) (fSome (fC (D.da (PyData.int 3)))))) (.nm 3) exB [some net, some (.ref s.length), some (.da p), v] (s ++ [O.lst l]) = .ok (.nx [some net, some (.ref s.length), some (.da p), some (.da b)]) (s ++ [O.lst ((l ++ x) ++ y)]) := by
  subst hp
  simp only [e_for, e_it, e_sl, e_var2, R.bind_ok', e_sl1, e_some, e_c, e_some1, e_sl2, e_sl3, PF.sl_tup, cut13, it_tup, e_for1, List.map_cons, List.map_nil]
  rw [loop_cons l_nm3, h1, R.bind_ok', loop_nx, loop_cons l_nm3, h2, R.bind_ok', loop_nx, loop_nil]
theorem nam_turn {s : S} {m : Int} {ps acc : List Str} {p : PyData} {qs : List Str} {net : D} {v : Option D} (hq : PartD m ps p qs) (hl : acc.length ≤ 1000) :
    ∃ v', fFor (fIt (fSl false (fVar 2) (fSome (fC (D.da (PyData.int 1)))) (fSome (fC (D.da (PyData.int 3)))))) (.nm 3) exB [some net, some (.ref s.length), some (.da p), v] (s ++ [O.lst (acc.map D.str)]) = .ok (.nx [some net, some (.ref s.length), some (.da p), v']) (s ++ [O.lst ((acc ++ qs).map D.str)]) := by
  have l1 : (acc.map D.str).length ≤ 2000 := by rw [List.length_map]; omega
  cases hq with
  | @two w a b =>
    have := nam_two (v := v) (net := net) (s := s) (p := .tuple [.str w, .str a, .str b]) (ex_str l1) (ex_str (by simp; omega)) rfl
    exact ⟨some (.str b), this.trans (by simp)⟩
  | @held w a b x =>
    have := nam_two (v := v) (net := net) (s := s) (p := .tuple [.str w, .str a, .str b, x]) (ex_str l1) (ex_str (by simp; omega)) rfl
    exact ⟨some (.str b), this.trans (by simp)⟩
  | @only a b ts =>
    have := nam_two (v := v) (net := net) (s := s) (p := .tuple [.str "only", .str a, .str b, .tuple (ts.map .int)]) (ex_str l1) (ex_str (by simp; omega)) rfl
    exact ⟨some (.str b), this.trans (by simp)⟩
  | @copy a bs _ _ hb =>
    have := nam_two (v := v) (net := net) (s := s) (p := .tuple [.str "copy", .str a, .tuple (bs.map .str)]) (ex_str l1) (ex_tup (by simp; omega) (by omega)) rfl
    exact ⟨some (.tup (bs.map .str)), this.trans (by simp)⟩
  | @merge a bs _ _ hb =>
    have := nam_two (v := v) (net := net) (s := s) (p := .tuple [.str "merge", .tuple (bs.map .str), .str a]) (ex_tup l1 (by omega)) (ex_str (by simp; omega)) rfl
    exact ⟨some (.str a), this.trans (by simp)⟩
theorem v_names {m : Int} {ps seen : List Str} {parts : List PyData} {s : S} (hp : ∀ p ∈ parts, ∃ qs, PartD m ps p qs) (hl : parts.length ≤ 6) (hs : seen.length ≤ 6) :
    (F_law_names [.tup [.int m, .tuple (seen.map PyData.str), .tuple parts]] s).W fun d s' => d = .lst ((namesD seen parts).map PyData.str) ∧ Ext s s' := by
  rw [e_law_names]; unfold B_law_names
  walk_at "go"
  refine loop_inv (NamJ s seen parts (.tup [.int m, .tuple (seen.map PyData.str), .tuple parts])) ?_ ?_ _ _ _ ⟨[], parts, none, none, rfl, rfl, rfl, ?_⟩
  · rintro d r ρ s1 ⟨done, left, u, v, e1, e2, rfl, rfl⟩
    cases left with
    | nil => cases e2
    | cons p left =>
      cases e2
      refine ⟨_, l_nm2, ?_⟩
      obtain ⟨qs, hq⟩ := hp p (by rw [e1]; simp)
      have hlen := allP_len (seen := seen) (parts := done) fun q hq => hp q (by rw [e1]; exact List.mem_append_left _ hq)
      have hd : done.length ≤ parts.length := by rw [e1]; simp
      obtain ⟨v', e⟩ := nam_turn (s := s) (net := .tup [.int m, .tuple (seen.map PyData.str), .tuple parts]) (v := v) hq (acc := allP seen done) (by omega)
      unfold exB at e
      rw [e, R.W_ok]
      refine ⟨done ++ [p], left, _, _, by rw [e1]; simp, rfl, rfl, ?_⟩
      rw [allP_snoc, hq.ports]
  · rintro ρ s1 ⟨done, left, u, v, e1, e2, rfl, rfl⟩
    cases left with
    | cons p left => cases e2
    | nil =>
      rw [List.append_nil] at e1
      subst e1
      have hlen := allP_len (seen := seen) hp
      walk_at "go"
      rw [sortset_ref (snoc_get _ _) (by omega)]
      walk_at "go"
      exact ⟨rfl, Ext.add _ _⟩
  · simp [allP]
end Ln
namespace Ln
open PySem L2 PF
def ltS (a b : Str) : Bool := decide (a.cps.toList < b.cps.toList)
def riseB (ss : List Str) : Bool := ((ss.zip (ss.drop 1)).map fun p => ltS p.1 p.2).all id
def passD (m : Int) (ss : List Str) : PyData → Bool
  | .tuple [a, b] => inD a ss && thingD m b
  | _ => false
def fstS : PyData → Str
  | .tuple (.str x :: _) => x
  | _ => ""
def momD (m : Int) (ss : List Str) : PyData → Bool
  | .tuple ds => ds.all (passD m ss) && riseB (ds.map fstS)
  | _ => false
theorem pass_inv {m : Int} {ss : List Str} {d : PyData} (h : passD m ss d = true) : ∃ x b, d = .tuple [.str x, b] := by
  match d, h with
  | .tuple [a, b], h =>
    have h' : (inD a ss && thingD m b) = true := h
    rw [Bool.and_eq_true] at h'
    match a, h'.1 with
    | .str x, _ => exact ⟨x, b, rfl⟩
theorem rise_cons (x y : Str) (r : List Str) : riseB (x :: y :: r) = (ltS x y && riseB (y :: r)) := by
  simp [riseB]
theorem lt_trS {a b c : Str} (h1 : ltS a b = true) (h2 : ltS b c = true) : ltS a c = true := by
  unfold ltS at h1 h2 ⊢
  exact decide_eq_true (List.lt_trans (of_decide_eq_true h1) (of_decide_eq_true h2))
theorem rise_pw : ∀ (l : List Str), riseB l = true → l.Pairwise fun a b => ltS a b = true
  | [], _ => .nil
  | [_], _ => (List.pairwise_singleton _ _)
  | x :: y :: r, h => by
    rw [rise_cons, Bool.and_eq_true] at h
    have ih := rise_pw (y :: r) h.2
    rw [List.pairwise_cons]
    refine ⟨fun z hz => ?_, ih⟩
    (rcases List.mem_cons.mp hz with rfl | hz)
    · exact h.1
    · exact lt_trS h.1 ((List.pairwise_cons.mp ih).1 z hz)
theorem pw_rise : ∀ (l : List Str), (l.Pairwise fun a b => ltS a b = true) → riseB l = true
  | [], _ => rfl
  | [_], _ => rfl
  | x :: y :: r, h => by
    rw [rise_cons, Bool.and_eq_true]
    rw [List.pairwise_cons] at h
    exact ⟨h.1 y List.mem_cons_self, pw_rise (y :: r) h.2⟩
theorem lt_leS {a b : Str} (h : ltS a b = true) : leS a b := leS_le.mpr (List.not_lt.mp fun z => List.lt_irrefl _ (List.lt_trans z (of_decide_eq_true h)))
theorem lt_neS {a b : Str} (h : ltS a b = true) : a ≠ b := fun e => by subst e; exact List.lt_irrefl _ (of_decide_eq_true h)
theorem rise_iff (l : List Str) : decide (l = srtS (uniq l)) = riseB l := by
  have pm : (srtS (uniq l)).Perm (uniq l) := srt_perm _
  have pw := srt_pw (uniq l)
  generalize srtS (uniq l) = S at pm pw
  (rw [Bool.eq_iff_iff, decide_eq_true_eq])
  constructor
  · intro e
    have nd : S.Nodup := pm.nodup_iff.mpr (uniq_facts l).1
    rw [e]
    refine pw_rise S ?_
    have both := List.pairwise_and_iff.mpr ⟨pw, nd⟩
    refine both.imp fun {a b} h => ?_
    unfold ltS
    refine decide_eq_true ?_
    rcases Classical.em (a.cps.toList < b.cps.toList) with z | z
    · exact z
    · exact absurd (leS_anti h.1 (leS_le.mpr (List.not_lt.mp z))) h.2
  · intro h
    have pw2 := rise_pw l h
    have nd : l.Nodup := pw2.imp fun h => lt_neS h
    rw [uniq_nodup nd] at pm
    exact (perm_sorted pw (pw2.imp fun h => lt_leS h) pm).symm
theorem any_inD (a : PyData) : ∀ ss : List Str, ((ss.map PyData.str).any fun d => PyData.eqv d a) = inD a ss := by
  intro ss
  cases a with
  | str w => rw [any_strs]; rfl
  | _ =>
    rw [show ∀ x : PyData, inD x ss = inD x ss from fun _ => rfl]
    rw [List.any_eq_false.mpr (by intro d hd; obtain ⟨x, _, rfl⟩ := List.mem_map.mp hd; exact Bool.false_ne_true)]
    rfl
theorem gIn_data {a : PyData} {ss : List Str} {s : S} (h1 : okD a = true) (h2 : ∀ x ∈ ss, okD (.str x) = true) : gIn (.da a) (.tup (ss.map PyData.str)) s = .ok (.bl (inD a ss)) s := by
  have e : gIn (.da a) (.tup (ss.map PyData.str)) s = gInS false (.da a) (.tup (ss.map PyData.str)) s := by cases a <;> rfl
  rw [e]
  show (if okD a = true ∧ (ss.map PyData.str).all okD = true then R.ok (D.bl (nb false ((ss.map PyData.str).any fun d => PyData.eqv d a))) s else .bad) = _
  rw [if_pos ⟨h1, all_strs h2⟩, any_inD]; rfl
theorem v_passing {m : Int} {ss : List Str} {d : PyData} {s : S} (h2 : ∀ x ∈ ss, okD (.str x) = true) (h1 : ∀ ds, d = .tuple ds → ∀ x ∈ ds, okD x = true) : Fis_passing [.int m, .tup (ss.map PyData.str), .da d] s = .ok (.bl (passD m ss d)) s := by
  rw [eis_passing]; unfold Bis_passing
  walk_at "ev"
  by_cases ht : ∃ ds, d = .tuple ds
  · obtain ⟨ds, rfl⟩ := ht
    rw [show isiD (.tuple ds) "tuple" = true from rfl]
    walk_at "ev"
    rw [gNe_int]
    match ds with
    | [a, b] =>
      rw [show (!decide ((([a, b] : List PyData).length : Int) = 2)) = false by simp]
      walk_at "ev"
      rw [gIn_data (h1 _ rfl a (by simp)) h2]
      show _ = R.ok (D.bl (inD a ss && thingD m b)) s
      cases inD a ss with
      | false => walk_at "ev"
      | true =>
        walk_at "ev"
        rw [v_thing]
        walk_at "ev"
    | [] => rfl
    | [a] => rfl
    | a :: b :: c :: r =>
      rw [show (!decide (((a :: b :: c :: r).length : Int) = 2)) = true by simp; omega]
      walk_at "ev"
      rfl
  · have e : isiD d "tuple" = false := by cases d <;> first | rfl | exact absurd ⟨_, rfl⟩ ht
    rw [e]
    walk_at "ev"
    have e2 : passD m ss d = false := by cases d <;> first | rfl | exact absurd ⟨_, rfl⟩ ht
    rw [e2]
theorem cut_fromA {α : Type} (l : List α) (t : Nat) : cutL l (some (t : Int)) none = l.drop t := by
  by_cases h : t ≤ l.length
  · exact cut_from l t h
  · unfold cutL
    rw [HT.sIx_nat, HT.sIx_none, Nat.min_eq_right (by omega), List.drop_length, List.drop_eq_nil_of_le (by omega)]
    simp
def lastF (done : List PyData) : Str := done.foldl (fun _ d => fstS d) ""
theorem rise_snoc (x : PyData) : ∀ done : List PyData, riseB ((done ++ [x]).map fstS) = (riseB (done.map fstS) && (done.isEmpty || ltS (lastF done) (fstS x)))
  | [] => by simp [riseB]
  | [y] => by
    show riseB [fstS y, fstS x] = (riseB [fstS y] && (false || ltS (fstS y) (fstS x)))
    rw [rise_cons]
    simp [riseB]
  | y :: z :: r => by
    have ih := rise_snoc x (z :: r)
    have e : lastF (y :: z :: r) = lastF (z :: r) := rfl
    rw [e]
    simp only [List.cons_append, List.map_cons, List.isEmpty_cons, Bool.false_or] at ih ⊢
    rw [rise_cons, rise_cons, ih, Bool.and_assoc]
theorem rise_pre {done left : List PyData} {x : PyData} (h : riseB ((done ++ x :: left).map fstS) = true) : riseB ((done ++ [x]).map fstS) = true := by
  have pw := rise_pw _ h
  refine pw_rise _ (pw.sublist ?_)
  refine List.Sublist.map _ ?_
  exact List.Sublist.append_left (List.Sublist.cons₂ _ (List.nil_sublist _)) _
theorem pos_lt {x : Str} (h : 0 < x.length) : ltS "" x = true := by
  refine decide_eq_true ?_
  have : 0 < x.cps.toList.length := by rw [Array.length_toList]; exact h
  match hx : x.cps.toList with
  | [] => rw [hx] at this; simp at this
  | c :: r => exact List.nil_lt_cons _ _
structure MfJ (s0 : S) (m : Int) (ss : List Str) (ds : List PyData) (r : List D) (ρ : En) (s : S) : Prop where
  ex : ∃ (done left : List PyData) (u : Option D), ds = done ++ left ∧ r = left.map D.da ∧ ρ = [some (.int m), some (.tup (ss.map PyData.str)), some (.tup ds), some (.str (lastF done)), u] ∧ s = s0 ∧ done.all (passD m ss) = true ∧ riseB (done.map fstS) = true
structure MfQ (s0 : S) (m : Int) (ss : List Str) (ds : List PyData) (fl : Fl) (s : S) : Prop where
  ex : s = s0 ∧ ((∃ ρ, fl = .nx ρ ∧ momD m ss (.tuple ds) = true) ∨ (fl = .rt (.bl false) ∧ momD m ss (.tuple ds) = false))
theorem v_momentOf {m : Int} {ss : List Str} {d : PyData} {s : S} (hp : ∀ x ∈ ss, 0 < x.length) (h2 : ∀ x ∈ ss, okD (.str x) = true) (h1 : ∀ ds, d = .tuple ds → ds.length ≤ 1000 ∧ ∀ x ∈ ds, ∀ es, x = .tuple es → ∀ y ∈ es, okD y = true) : (Fis_moment_of [.int m, .tup (ss.map PyData.str), .da d] s).W fun r s' => r = .bl (momD m ss d) ∧ s' = s := by
  rw [eis_moment_of]; unfold Bis_moment_of
  walk_at "go"
  by_cases ht : ∃ ds, d = .tuple ds
  · obtain ⟨ds, rfl⟩ := ht
    obtain ⟨hl, hok⟩ := h1 ds rfl
    rw [show isiD (.tuple ds) "tuple" = true from rfl]
    walk_at "go"
    refine R.W_mono (loop_inv (Q := MfQ s m ss ds) (MfJ s m ss ds) ?_ ?_ _ _ _ ⟨[], ds, none, rfl, rfl, rfl, rfl, rfl, rfl⟩) ?_
    · rintro _ r ρ s2 ⟨done, left, u, e1, e2, rfl, rfl, hd, hr⟩
      cases left with
      | nil => cases e2
      | cons x left =>
        cases e2
        refine ⟨_, l_nm4, ?_⟩
        have hxm : x ∈ ds := by rw [e1]; simp
        have stop : momD m ss (.tuple ds) = false → flW (MfJ s2 m ss ds (left.map D.da)) (MfQ s2 m ss ds) (.rt (.bl false)) s2 := fun h => ⟨rfl, .inr ⟨rfl, h⟩⟩
        walk_at "go"
        rw [v_passing h2 (fun es e y hy => hok x hxm es e y hy)]
        cases hb : passD m ss x with
        | false =>
          walk_at "go"
          refine stop ?_
          show (ds.all (passD m ss) && _) = false
          rw [show ds.all (passD m ss) = false by rw [List.all_eq_false]; exact ⟨x, hxm, by rw [hb]; simp⟩, Bool.false_and]
        | true =>
          walk_at "go"
          obtain ⟨y, b, rfl⟩ := pass_inv hb
          have hy : 0 < y.length := by
            have hb' : (decide (y ∈ ss) && thingD m b) = true := hb
            rw [Bool.and_eq_true, decide_eq_true_eq] at hb'
            exact hp y hb'.1
          walk_at "go"
          rw [gLeT_str]
          walk_at "go"
          have sn := rise_snoc (.tuple [.str y, b]) done
          rw [hr, Bool.true_and] at sn
          cases hlt : decide ((lastF done).cps.toList < y.cps.toList) with
          | false =>
            walk_at "go"
            refine stop ?_
            show (_ && riseB (ds.map fstS)) = false
            cases hz : riseB (ds.map fstS) with
            | false => rw [Bool.and_false]
            | true =>
              rw [e1] at hz
              have := rise_pre hz
              rw [sn] at this
              have l2 : ltS (lastF done) (fstS (.tuple [.str y, b])) = false := hlt
              rw [l2, Bool.or_false] at this
              cases done with
              | nil =>
                have := pos_lt hy
                rw [show lastF [] = "" from rfl] at l2
                rw [show fstS (.tuple [.str y, b]) = y from rfl, this] at l2
                cases l2
              | cons _ _ => cases this
          | true =>
            walk_at "go"
            refine ⟨done ++ [.tuple [.str y, b]], left, some (.tup [.str y, b]), by rw [e1]; simp, rfl, ?_, rfl, ?_, ?_⟩
            · show _ = [some (D.int m), some (D.tup (ss.map PyData.str)), some (D.tup ds), some (D.str (lastF (done ++ [.tuple [.str y, b]]))), _]
              rw [show lastF (done ++ [.tuple [.str y, b]]) = y by unfold lastF; rw [List.foldl_append]; rfl]
            · rw [List.all_append, hd]; simp [hb]
            · rw [sn]
              have l2 : ltS (lastF done) (fstS (.tuple [.str y, b])) = true := hlt
              rw [l2, Bool.or_true]
    · rintro ρ s2 ⟨done, left, u, e1, e2, rfl, rfl, hd, hr⟩
      cases left with
      | cons p left => cases e2
      | nil =>
        rw [List.append_nil] at e1
        subst e1
        refine ⟨rfl, .inl ⟨_, rfl, ?_⟩⟩
        show (_ && _) = true
        rw [hd, hr]; rfl
    · rintro fl s2 ⟨rfl, ⟨ρ, rfl, hA⟩ | ⟨rfl, hA⟩⟩
      · walk_at "go"
        exact ⟨by rw [hA], by first | rfl | trivial⟩
      · walk_at "go"
        exact ⟨by rw [hA], by first | rfl | trivial⟩
  · have e : isiD d "tuple" = false := by cases d <;> first | rfl | exact absurd ⟨_, rfl⟩ ht
    rw [e]
    walk_at "go"
    have e2 : momD m ss d = false := by cases d <;> first | rfl | exact absurd ⟨_, rfl⟩ ht
    rw [e2]
    exact ⟨by first | rfl | trivial, by first | rfl | trivial⟩
end Ln
namespace Ln
open PySem L2 PF
theorem names_sub {m : Int} {ps seen : List Str} {parts : List PyData} (hs : ∀ x ∈ seen, x ∈ ps) (h : ∀ p ∈ parts, ∃ qs, PartD m ps p qs) : ∀ x ∈ namesD seen parts, x ∈ ps := by
  intro x hx
  have h1 := (srt_perm _).mem_iff.mp hx
  exact allP_sub hs h x (((uniq_facts _).2.1 x).mp h1)
theorem v_moment {m : Int} {ps seen : List Str} {parts : List PyData} {d : PyData} {s : S} (hs6 : seen.length ≤ 6) (hl : parts.length ≤ 6) (hs : ∀ x ∈ seen, x ∈ ps) (hp : ∀ p ∈ parts, ∃ qs, PartD m ps p qs) (ok : ∀ x ∈ ps, okPort x = true)
    (h1 : ∀ ds, d = .tuple ds → ds.length ≤ 1000 ∧ ∀ x ∈ ds, ∀ es, x = .tuple es → ∀ y ∈ es, okD y = true) :
    (Fis_moment [.tup [.int m, .tuple (seen.map PyData.str), .tuple parts], .da d] s).W fun r s' => r = .bl (momD m (namesD seen parts) d) ∧ Ext s s' := by
  rw [eis_moment]; unfold Bis_moment
  walk_at "go"
  refine R.W_mono (v_ports_in hp hl hs6) ?_
  rintro _ s1 ⟨rfl, ex⟩
  walk_at "go"
  refine R.W_mono (v_momentOf (fun x hx => port_pos (ok x (names_sub hs hp x hx))) (fun x hx => okD_port (ok x (names_sub hs hp x hx))) h1) ?_
  rintro _ _ ⟨rfl, rfl⟩
  walk_at "go"
  exact ⟨by first | rfl | trivial, ex⟩
theorem sortset_lst {s : S} {ss : List Str} (hl : ss.length < 64) : gSortSet false [.lst (ss.map PyData.str)] s = .ok (.lst ((srtS (uniq ss)).map PyData.str)) s := by
  show (match (some ((ss.map PyData.str).map D.da)).bind strsD with | some ss => (if ss.length < 4000 ∧ (uniq ss).length < 64 then newL false ((srtS (uniq ss)).map D.str) s else .bad) | none => .bad) = _
  rw [show (ss.map PyData.str).map D.da = ss.map D.str by rw [List.map_map]; rfl]
  show (match strsD (ss.map D.str) with | some ss => (if ss.length < 4000 ∧ (uniq ss).length < 64 then newL false ((srtS (uniq ss)).map D.str) s else .bad) | none => .bad) = _
  rw [strsD_map]
  show (if ss.length < 4000 ∧ (uniq ss).length < 64 then newL false ((srtS (uniq ss)).map D.str) s else .bad) = _
  have := (uniq_facts ss).2.2
  rw [if_pos ⟨by omega, by omega⟩]
  show (match pures ((srtS (uniq ss)).map D.str) with | some xs => R.ok (D.lst xs) s | none => .bad) = _
  rw [show (srtS (uniq ss)).map D.str = ((srtS (uniq ss)).map PyData.str).map D.da by rw [List.map_map]; rfl, pures_da]
theorem eqv_strs : ∀ xs ys : List Str, PyData.eqvAll (xs.map PyData.str) (ys.map PyData.str) = decide (xs = ys)
  | [], [] => rfl
  | [], _ :: _ => rfl
  | _ :: _, [] => rfl
  | x :: r, y :: t => by
    show ((x == y) && PyData.eqvAll (r.map PyData.str) (t.map PyData.str)) = _
    rw [eqv_strs r t, Bool.eq_iff_iff, Bool.and_eq_true, beq_iff_eq, decide_eq_true_eq, decide_eq_true_eq, List.cons.injEq]
theorem gEq_strs {xs ys : List Str} {s : S} (hx : ∀ x ∈ xs, okPort x = true) (hy : ∀ x ∈ ys, okPort x = true) : gEq (.lst (xs.map PyData.str)) (.lst (ys.map PyData.str)) s = .ok (.bl (decide (xs = ys))) s := by
  rw [gEq_da ((nices_strs xs hx).lst.okD (by decide)) ((nices_strs ys hy).lst.okD (by decide))]
  show R.ok (D.bl (PyData.eqvAll _ _)) s = _
  rw [eqv_strs]
structure LmJ (s1 : S) (m : Int) (ss : List Str) (ds : List PyData) (net names : D) (r : List D) (ρ : En) (s : S) : Prop where
  ex : ∃ (done left : List PyData) (u : Option D), ds = done ++ left ∧ r = left.map D.da ∧ ρ = [some net, some (.tup ds), some names, u] ∧ s = s1 ∧ done.all (passD m ss) = true
structure LmQ (s1 : S) (m : Int) (ss : List Str) (ds : List PyData) (net names : D) (fl : Fl) (s : S) : Prop where
  ex : s = s1 ∧ ((∃ u, fl = .nx [some net, some (.tup ds), some names, u] ∧ ds.all (passD m ss) = true) ∨ (fl = .rt (.bl false) ∧ ds.all (passD m ss) = false))
theorem gNotIn_lstS {w : Str} {ss : List Str} {s : S} (h1 : okD (.str w) = true) (h2 : ∀ x ∈ ss, okD (.str x) = true) : gNotIn (.str w) (.lst (ss.map PyData.str)) s = .ok (.bl (!decide (w ∈ ss))) s := by
  show (if okD (.str w) = true ∧ (ss.map PyData.str).all okD = true then R.ok (D.bl (nb true ((ss.map PyData.str).any fun d => PyData.eqv d (.str w)))) s else .bad) = _
  rw [if_pos ⟨h1, all_strs h2⟩, any_strs]; rfl
theorem v_lmoment {m : Int} {ps seen : List Str} {parts : List PyData} {d : PyData} {s : S} (hs6 : seen.length ≤ 6) (hl : parts.length ≤ 6) (hs : ∀ x ∈ seen, x ∈ ps) (hp : ∀ p ∈ parts, ∃ qs, PartD m ps p qs) (ok : ∀ x ∈ ps, okPort x = true)
    (h1 : ∀ ds, d = .tuple ds → ds.length ≤ 50 ∧ ∀ x ∈ ds, ∀ es, x = .tuple es → ∀ y ∈ es, okD y = true) :
    (F_law_is_moment [.tup [.int m, .tuple (seen.map PyData.str), .tuple parts], .da d] s).W fun r s' => r = .bl (momD m (namesD seen parts) d) ∧ Ext s s' := by
  rw [e_law_is_moment]; unfold B_law_is_moment
  walk_at "go"
  refine R.W_mono (v_names hp hl hs6) ?_
  rintro _ s1 ⟨rfl, ex⟩
  have okn : ∀ x ∈ namesD seen parts, okPort x = true := fun x hx => ok x (names_sub hs hp x hx)
  generalize namesD seen parts = ss at okn
  walk_at "go"
  by_cases ht : ∃ ds, d = .tuple ds
  · obtain ⟨ds, rfl⟩ := ht
    obtain ⟨hl, hok⟩ := h1 ds rfl
    rw [show isiD (.tuple ds) "tuple" = true from rfl]
    walk_at "go"
    generalize hnet : (D.tup [.int m, .tuple (seen.map PyData.str), .tuple parts]) = net
    have hnt : ∀ (x : PyData) (s : S), F_law_is_thing [net, .da x] s = .ok (.bl (thingD m x)) s := fun x s => by rw [← hnet]; exact v_lthing
    refine R.W_mono (loop_inv (Q := LmQ s1 m ss ds net (.lst (ss.map PyData.str))) (LmJ s1 m ss ds net (.lst (ss.map PyData.str))) ?_ ?_ _ _ _ ⟨[], ds, none, rfl, rfl, rfl, rfl, rfl⟩) ?_
    · rintro _ r ρ s2 ⟨done, left, u, e1, e2, rfl, rfl, hd⟩
      cases left with
      | nil => cases e2
      | cons x left =>
        cases e2
        refine ⟨_, l_nm3, ?_⟩
        have hxm : x ∈ ds := by rw [e1]; simp
        have bad : passD m ss x = false → ds.all (passD m ss) = false := fun h => by rw [List.all_eq_false]; exact ⟨x, hxm, by rw [h]; simp⟩
        have good : passD m ss x = true → flW (LmJ s2 m ss ds net (.lst (ss.map PyData.str)) (left.map D.da)) (LmQ s2 m ss ds net (.lst (ss.map PyData.str))) (.nx [some net, some (.tup ds), some (.lst (ss.map PyData.str)), some (.da x)]) s2 := fun h =>
          ⟨done ++ [x], left, _, by rw [e1]; simp, rfl, rfl, rfl, by rw [List.all_append, hd]; simp [h]⟩
        have stop : passD m ss x = false → flW (LmJ s2 m ss ds net (.lst (ss.map PyData.str)) (left.map D.da)) (LmQ s2 m ss ds net (.lst (ss.map PyData.str))) (.rt (.bl false)) s2 := fun h => ⟨rfl, .inr ⟨rfl, bad h⟩⟩
        walk_at "go"
        by_cases hx : ∃ es, x = .tuple es
        · obtain ⟨es, rfl⟩ := hx
          rw [show isiD (.tuple es) "tuple" = true from rfl]
          walk_at "go"
          rw [gNe_int]
          match es with
          | [a, b] =>
            rw [show (!decide ((([a, b] : List PyData).length : Int) = 2)) = false by simp]
            walk_at "go"
            by_cases ha : ∃ w, a = .str w
            · obtain ⟨w, rfl⟩ := ha
              have okw : okD (.str w) = true := hok _ hxm _ rfl _ (by simp)
              rw [show isiD (.str w) "str" = true from rfl]
              walk_at "go"
              rw [gNotIn_lstS okw (fun x hx => okD_port (okn x hx))]
              cases hw : decide (w ∈ ss) with
              | false =>
                walk_at "go"
                exact stop (by show (decide (w ∈ ss) && _) = false; rw [hw]; rfl)
              | true =>
                walk_at "go"
                rw [hnt]
                cases hb : thingD m b with
                | false =>
                  walk_at "go"
                  exact stop (by show (_ && thingD m b) = false; rw [hb, Bool.and_false])
                | true =>
                  walk_at "go"
                  exact good (by show (decide (w ∈ ss) && thingD m b) = true; rw [hw, hb]; rfl)
            · rw [show isiD a "str" = false by cases a <;> first | rfl | exact absurd ⟨_, rfl⟩ ha]
              walk_at "go"
              exact stop (by show (inD a ss && _) = false; cases a <;> first | rfl | exact absurd ⟨_, rfl⟩ ha)
          | [] =>
            rw [show (!decide ((([] : List PyData).length : Int) = 2)) = true by simp]
            walk_at "go"
            exact stop rfl
          | [a] =>
            rw [show (!decide ((([a] : List PyData).length : Int) = 2)) = true by simp]
            walk_at "go"
            exact stop rfl
          | a :: b :: c :: q =>
            rw [show (!decide (((a :: b :: c :: q).length : Int) = 2)) = true by simp; omega]
            walk_at "go"
            exact stop rfl
        · rw [show isiD x "tuple" = false by cases x <;> first | rfl | exact absurd ⟨_, rfl⟩ hx]
          walk_at "go"
          exact stop (by cases x <;> first | rfl | exact absurd ⟨_, rfl⟩ hx)
    · rintro ρ s2 ⟨done, left, u, e1, e2, rfl, rfl, hd⟩
      cases left with
      | cons p left => cases e2
      | nil =>
        rw [List.append_nil] at e1
        subst e1
        exact ⟨rfl, .inl ⟨u, rfl, hd⟩⟩
    · rintro fl s2 ⟨rfl, ⟨u, rfl, hA⟩ | ⟨rfl, hA⟩⟩
      · walk_at "go"
        have cp : ∀ s : S, compF (.nm 0) fYes (fOp gIx (fVar 0) (fC (D.da (PyData.int 0)))) [none] (ds.map D.da, none) (ds.map D.da) s = .ok (((ds.map fstS).map PyData.str).map D.da) s := fun s => by
          rw [comp_pure (rest := []) (fun _ => true) (fun x => .str (fstS x)), List.filter_eq_self.mpr (fun _ _ => rfl), List.map_map, List.map_map]
          · rfl
          · intro x _; walk_at "ev"
          · intro x hx _
            obtain ⟨y, b, rfl⟩ := pass_inv (List.all_eq_true.mp hA x hx)
            walk_at "ev"
            rfl
        have okf : ∀ x ∈ ds.map fstS, okPort x = true := fun x hx => by
          (obtain ⟨y, hy, rfl⟩ := List.mem_map.mp hx)
          have hp := List.all_eq_true.mp hA y hy
          obtain ⟨w, b, rfl⟩ := pass_inv hp
          have hp : (decide (w ∈ ss) && thingD m b) = true := hp
          rw [Bool.and_eq_true, decide_eq_true_eq] at hp
          exact okn w hp.1
        rw [e_lc1 (ρ0 := [none]) (by rw [List.length_map]; omega) rfl, cp]
        walk_at "go"
        rw [e_lc1 (ρ0 := [none]) (by rw [List.length_map]; omega) rfl, cp]
        walk_at "go"
        rw [sortset_lst (by rw [List.length_map]; omega)]
        walk_at "go"
        rw [gEq_strs okf (fun x hx => okf x (((uniq_facts _).2.1 x).mp ((srt_perm _).mem_iff.mp hx))), rise_iff]
        walk_at "go"
        refine ⟨?_, ex⟩
        show _ = D.bl (ds.all (passD m ss) && riseB (ds.map fstS))
        rw [hA, Bool.true_and]
      · walk_at "go"
        refine ⟨?_, ex⟩
        show _ = D.bl (ds.all (passD m ss) && riseB (ds.map fstS))
        rw [hA, Bool.false_and]
  · rw [show isiD d "tuple" = false by cases d <;> first | rfl | exact absurd ⟨_, rfl⟩ ht]
    walk_at "go"
    exact ⟨by rw [show momD m ss d = false by cases d <;> first | rfl | exact absurd ⟨_, rfl⟩ ht], ex⟩
end Ln
namespace Ln
open PySem L2 PF
theorem Nices.sub {B D : Nat} {ds xs : List PyData} (h : Nices B D ds) (hs : ∀ x ∈ xs, x ∈ ds) : Nices ((B + 1) * xs.length) D xs := nices_all xs fun x hx => h.get (hs x hx)
theorem words_port : ∀ w ∈ (["both", "loose", "drain", "either", "place", "last", "only", "copy", "merge"] : List Str), okPort w = true := by decide +kernel
theorem nice_small {i : Int} (h0 : -1000000 ≤ i) (h1 : i ≤ 1000000) : Nice 0 0 (.int i) := by
  refine nice_int ?_
  (have e : (10 : Nat) ^ 12 = 1000000000000 := by decide)
  omega
theorem nices_ints : ∀ (ts : List Int), (∀ t ∈ ts, 0 ≤ t ∧ t ≤ 1000) → Nices ts.length 0 (ts.map PyData.int)
  | [], _ => Nices.nil
  | t :: r, h => by
    have ht := h t List.mem_cons_self
    refine (Nices.cons (nice_small (by omega) (by omega)) (nices_ints r fun y hy => h y (List.mem_cons_of_mem _ hy))).mono ?_ (Nat.le_refl _)
    rw [List.length_cons]; omega
theorem PartD.nice {m : Int} {ps : List Str} {p : PyData} {qs : List Str} (h : PartD m ps p qs) (hm : m ≤ 3) (ok : ∀ x ∈ ps, okPort x = true) : Nice 200 2 p := by
  have W := words_port
  cases h with
  | @two w a b hw ha hb =>
    have hw' : okPort w = true := W w (by revert hw; simp only [List.mem_cons, List.not_mem_nil, or_false]; rintro (rfl | rfl | rfl | rfl) <;> simp)
    exact (Nices.cons (nice_str hw') (Nices.cons (nice_str (ok a ha)) (Nices.cons (nice_str (ok b hb)) Nices.nil))).tup.mono (by decide) (by decide)
  | @held w a b x hw ha hb hx =>
    have hw' : okPort w = true := W w (by revert hw; simp only [List.mem_cons, List.not_mem_nil, or_false]; rintro (rfl | rfl) <;> simp)
    have hx' : Nice 0 0 x := by
      rcases hx with rfl | ⟨i, rfl, h0, h1⟩
      · exact nice_none
      · exact nice_small (by omega) (by omega)
    exact (Nices.cons (nice_str hw') (Nices.cons (nice_str (ok a ha)) (Nices.cons (nice_str (ok b hb)) (Nices.cons hx' Nices.nil)))).tup.mono (by decide) (by decide)
  | @only a b ts ha hb ht hl =>
    have h4 : Nice 3 1 (.tuple (ts.map .int)) := (nices_ints ts fun x hx => by have := ht x hx; omega).tup.mono (by omega) (by decide)
    exact (Nices.cons ((nice_str (W "only" (by simp))).mono (B' := 20) (D' := 1) (by decide) (by decide)) (Nices.cons ((nice_str (ok a ha)).mono (B' := 20) (D' := 1) (by decide) (by decide)) (Nices.cons ((nice_str (ok b hb)).mono (B' := 20) (D' := 1) (by decide) (by decide)) (Nices.cons h4 Nices.nil)))).tup.mono (by decide) (by decide)
  | @copy a bs ha hb hl =>
    have h4 : Nice 84 1 (.tuple (bs.map .str)) := (nices_strs bs fun x hx => ok x (hb x hx)).tup.mono (by omega) (by decide)
    exact (Nices.cons ((nice_str (W "copy" (by simp))).mono (B' := 20) (D' := 1) (by decide) (by decide)) (Nices.cons ((nice_str (ok a ha)).mono (B' := 20) (D' := 1) (by decide) (by decide)) (Nices.cons h4 Nices.nil))).tup.mono (by decide) (by decide)
  | @merge a bs ha hb hl =>
    have h4 : Nice 84 1 (.tuple (bs.map .str)) := (nices_strs bs fun x hx => ok x (hb x hx)).tup.mono (by omega) (by decide)
    exact (Nices.cons ((nice_str (W "merge" (by simp))).mono (B' := 20) (D' := 1) (by decide) (by decide)) (Nices.cons h4 (Nices.cons ((nice_str (ok a ha)).mono (B' := 20) (D' := 1) (by decide) (by decide)) Nices.nil))).tup.mono (by decide) (by decide)
theorem NetD.nice {d : PyData} {m : Int} {seen : List Str} {parts : List PyData} {ps : List Str} (h : NetD d m seen parts ps) : Nice 2000 4 d := by
  have h1 : Nice 130 3 (.tuple (seen.map PyData.str)) := (nices_strs seen fun x hx => h.ok x (h.sp x hx)).tup.mono (by have := h.sl; omega) (by decide)
  have h2 : Nice 1300 3 (.tuple parts) := (nices_all (B := 200) (D := 2) parts fun p hp => by
    obtain ⟨qs, hq⟩ := h.pd p hp
    exact hq.nice h.m3 h.ok).tup.mono (by have := h.pl; omega) (by decide)
  rw [h.eq]
  exact (Nices.cons ((nice_small (i := m) (by have := h.m1; omega) (by have := h.m3; omega)).mono (B' := 0) (D' := 3) (by decide) (by decide)) (Nices.cons h1 (Nices.cons h2 Nices.nil))).tup.mono (by decide) (by decide)
structure Thing (d : PyData) : Prop where
  nc : Nice 100000 40 d
  wd : ∀ ds, d = .tuple ds → ds.length ≤ 50
theorem repr_bool {b : Bool} {s : S} : gRepr [.bl b] s = .ok (.str (PyData.bool b).shown) s := repr_da (by cases b <;> decide +kernel)
theorem v_right {net d : PyData} {m : Int} {seen : List Str} {parts : List PyData} {ps : List Str} {s : S} (N : NetD net m seen parts ps) (T : Thing d) : (F_law_right [.da net, .da d] s).W fun r s' => r = .bl true ∧ Ext s s' := by
  have okr : okS (.list [net, d]) = true := (Nices.cons (N.nice.mono (B' := 100000) (D' := 40) (by decide) (by decide)) (Nices.cons T.nc Nices.nil)).lst.okS (by decide) (by decide)
  have hE := N.eq
  rw [e_law_right]; unfold B_law_right
  walk_at "go"
  rw [repr_da okr]
  walk_at "go"
  subst hE
  have w1 : ∀ ds, d = .tuple ds → ds.length ≤ 1000 := fun ds e => by have := T.wd ds e; omega
  have w2 : ∀ ds, d = .tuple ds → ds.length ≤ 1000 ∧ ∀ xs : List PyData, xs.Sublist ds → okD (.list xs) = true := fun ds e => ⟨w1 ds e, fun xs hs => by
    have hn := T.nc
    rw [e] at hn
    exact (Nices.sub hn.tup_inv.1 (fun x hx => hs.subset hx)).lst.okD (by omega)⟩
  have w3 : ∀ ds, d = .tuple ds → ds.length ≤ 50 ∧ ∀ x ∈ ds, ∀ es, x = .tuple es → ∀ y ∈ es, okD y = true := fun ds e => ⟨T.wd ds e, fun x hx es e2 y hy => by
    have hn := T.nc
    rw [e] at hn
    have hx' := hn.tup_inv.1.get hx
    rw [e2] at hx'
    exact (hx'.tup_inv.1.get hy).okD (by omega)⟩
  have w4 : ∀ ds, d = .tuple ds → ds.length ≤ 1000 ∧ ∀ x ∈ ds, ∀ es, x = .tuple es → ∀ y ∈ es, okD y = true := fun ds e => ⟨w1 ds e, (w3 ds e).2⟩
  have hl6 := N.pl
  rw [v_stand N.pd (by omega) w1]
  walk_at "go"
  rw [repr_bool]
  walk_at "go"
  rw [v_lstand N.pd (by omega) w2]
  walk_at "go"
  rw [repr_bool]
  walk_at "go"
  rw [gNe_s, decide_eq_true rfl]
  walk_at "go"
  refine R.W_mono (v_moment N.sl N.pl N.sp N.pd N.ok w4) ?_
  rintro _ s1 ⟨rfl, x1⟩
  walk_at "go"
  rw [repr_bool]
  walk_at "go"
  refine R.W_mono (v_lmoment N.sl N.pl N.sp N.pd N.ok w3) ?_
  rintro _ s2 ⟨rfl, x2⟩
  walk_at "go"
  rw [repr_bool]
  walk_at "go"
  rw [gEq_s, decide_eq_true rfl]
  walk_at "go"
  rw [repr_da okr]
  walk_at "go"
  rw [gEq_s, decide_eq_true rfl]
  walk_at "go"
  exact ⟨by first | rfl | trivial, x1.trans x2⟩
end Ln
namespace Ln
open PySem L2 PF
def asc (x : Str) : Bool := x.cps.toList.all fun c => decide (32 ≤ c) && decide (c < 127)
theorem cutS_facts (z : Str) (lo hi : Option Int) : (cutS z lo hi).length ≤ z.length ∧ ∀ c ∈ (cutS z lo hi).cps.toList, c ∈ z.cps.toList := by
  unfold cutS
  split
  · exact ⟨Nat.le_refl _, fun _ h => h⟩
  · constructor
    · show (((Builtin.Str.strSliceIndices lo hi 1 z.length).filterMap (z.cps[·]?)).toArray).size ≤ z.length
      rw [List.size_toArray]
      exact Nat.le_trans (List.length_filterMap_le _ _) (sliceIndices_le _ _ _)
    · intro c hc
      have hc' : c ∈ (Builtin.Str.strSliceIndices lo hi 1 z.length).filterMap (z.cps[·]?) := by simpa using hc
      obtain ⟨i, _, e⟩ := List.mem_filterMap.mp hc'
      exact Array.mem_toList_iff.mpr (Array.mem_of_getElem? e)
theorem asc_cut {z : Str} (h : asc z = true) (lo hi : Option Int) : asc (cutS z lo hi) = true := by
  unfold asc at h ⊢
  rw [List.all_eq_true] at h ⊢
  exact fun c hc => h c ((cutS_facts z lo hi).2 c hc)
theorem app_list (x y : Str) : (x ++ y).cps.toList = x.cps.toList ++ y.cps.toList := by
  show (x.cps ++ y.cps).toList = _
  rw [Array.toList_append]
theorem asc_app {x y : Str} (h1 : asc x = true) (h2 : asc y = true) : asc (x ++ y) = true := by
  unfold asc at h1 h2 ⊢
  rw [app_list, List.all_append, h1, h2]; rfl
theorem app_len (x y : Str) : (x ++ y).length = x.length + y.length := by
  show (x.cps ++ y.cps).size = _
  rw [Array.size_append]; rfl
theorem port_asc {x : Str} (h : okPort x = true) : asc x = true := by
  unfold okPort at h
  rw [Bool.and_eq_true] at h
  exact h.2
inductive Lf (c W : Nat) : PyData → Prop
  | none : Lf c W .none
  | bool (b : Bool) : Lf c W (.bool b)
  | int {i : Int} : i.natAbs ≤ c → Lf c W (.int i)
  | str {x : Str} : asc x = true → Lf c W (.str x)
  | tup {ds : List PyData} : ds.length ≤ W → (∀ x ∈ ds, Lf c W x) → Lf c W (.tuple ds)
  | lst {ds : List PyData} : ds.length ≤ W → (∀ x ∈ ds, Lf c W x) → Lf c W (.list ds)
theorem Lf.mono {c W c' W' : Nat} {d : PyData} (h : Lf c W d) (hc : c ≤ c') (hW : W ≤ W') : Lf c' W' d := by
  induction h with
  | none => exact .none
  | bool b => exact .bool b
  | int h => exact .int (Nat.le_trans h hc)
  | str h => exact .str h
  | tup hl _ ih => exact .tup (Nat.le_trans hl hW) ih
  | lst hl _ ih => exact .lst (Nat.le_trans hl hW) ih
structure Core (d : PyData) : Prop where
  ls : d.leavesShort 13 = true
  sh : d.showable = true
  cl : d.canLay0 = true
theorem cores {ds : List PyData} (h : ∀ x ∈ ds, Core x) : PyData.leavesShortAll 13 ds = true ∧ PyData.showableAll ds = true ∧ PyData.canLayAll0 ds = true := by
  induction ds with
  | nil => exact ⟨rfl, rfl, rfl⟩
  | cons x r ih =>
    obtain ⟨a, b, e⟩ := ih fun y hy => h y (List.mem_cons_of_mem _ hy)
    obtain ⟨p, q, t⟩ := h x List.mem_cons_self
    exact ⟨by simp only [PyData.leavesShortAll, p, a, Bool.and_self], by simp only [PyData.showableAll, q, b, Bool.and_self], by simp only [PyData.canLayAll0, t, e, Bool.and_self]⟩
theorem Lf.core {c W : Nat} {d : PyData} (h : Lf c W d) (hc : c < 1000000) : Core d := by
  induction h with
  | none => exact ⟨rfl, rfl, rfl⟩
  | bool b => exact ⟨(nice_bool b).ls, rfl, rfl⟩
  | int h =>
    have n := nice_int (i := _) (by have e : (10 : Nat) ^ 12 = 1000000000000 := by decide
                                    rw [e]; exact Nat.lt_of_le_of_lt h (by omega))
    exact ⟨n.ls, n.sh, n.cl⟩
  | @str x h =>
    unfold asc at h
    simp only [List.all_eq_true, Bool.and_eq_true, decide_eq_true_eq] at h
    refine ⟨?_, rfl, ?_⟩
    · simp only [PyData.leavesShort, List.all_eq_true, decide_eq_true_eq]
      intro c hc
      have := (h c hc).2
      have e16 : (16 : Nat) ^ 8 = 4294967296 := by decide
      omega
    · simp only [PyData.canLay0]
      unfold PyData.strOk
      (rw [← Array.all_toList, List.all_eq_true])
      intro c hc
      have := (h c hc).2
      (exact decide_eq_true (by omega))
  | tup hl _ ih =>
    obtain ⟨a, b, e⟩ := cores ih
    exact ⟨by simpa only [PyData.leavesShort] using a, by simpa only [PyData.showable] using b, by simpa only [PyData.canLay0] using e⟩
  | lst hl _ ih =>
    obtain ⟨a, b, e⟩ := cores ih
    exact ⟨by simpa only [PyData.leavesShort] using a, by simpa only [PyData.showable] using b, by simpa only [PyData.canLay0] using e⟩
theorem Lf.nice {c W B D : Nat} {d : PyData} (h : Lf c W d) (hc : c < 1000000) (hb : d.bulk ≤ B) (hd : d.depth ≤ D) : Nice B D d := ⟨(h.core hc).ls, (h.core hc).sh, (h.core hc).cl, hb, hd⟩
theorem bulk_app (xs ys : List PyData) : PyData.bulkAll (xs ++ ys) = PyData.bulkAll xs + PyData.bulkAll ys := by
  induction xs with
  | nil => simp [PyData.bulkAll]
  | cons x r ih => simp only [List.cons_append, PyData.bulkAll, ih]; omega
theorem depth_app (xs ys : List PyData) : PyData.depthAll (xs ++ ys) = max (PyData.depthAll xs) (PyData.depthAll ys) := by
  induction xs with
  | nil => simp [PyData.depthAll]
  | cons x r ih => simp only [List.cons_append, PyData.depthAll, ih]; omega
theorem bulk_rev (xs : List PyData) : PyData.bulkAll xs.reverse = PyData.bulkAll xs := by
  induction xs with
  | nil => rfl
  | cons x r ih => simp only [List.reverse_cons, bulk_app, ih, PyData.bulkAll]; omega
theorem depth_rev (xs : List PyData) : PyData.depthAll xs.reverse = PyData.depthAll xs := by
  induction xs with
  | nil => rfl
  | cons x r ih => simp only [List.reverse_cons, depth_app, ih, PyData.depthAll]; omega
theorem bulk_split {xs : List PyData} {k : Nat} {x : PyData} (h : xs[k]? = some x) : PyData.bulkAll xs = PyData.bulkAll (xs.take k) + (x.bulk + 1) + PyData.bulkAll (xs.drop (k + 1)) ∧ PyData.depthAll xs = max (PyData.depthAll (xs.take k)) (max x.depth (PyData.depthAll (xs.drop (k + 1)))) := by
  have hk := (List.getElem?_eq_some_iff.mp h).1
  have e : xs = xs.take k ++ (x :: xs.drop (k + 1)) := by
    have := (List.getElem?_eq_some_iff.mp h).2
    rw [← this, ← List.drop_eq_getElem_cons hk, List.take_append_drop]
  constructor
  · conv => lhs; rw [e]
    rw [bulk_app, PyData.bulkAll]; omega
  · conv => lhs; rw [e]
    rw [depth_app, PyData.depthAll]
theorem bulk_take (xs : List PyData) (k : Nat) : PyData.bulkAll (xs.take k) + PyData.bulkAll (xs.drop k) = PyData.bulkAll xs := by rw [← bulk_app, List.take_append_drop]
theorem depth_take (xs : List PyData) (k : Nat) : PyData.depthAll (xs.take k) ≤ PyData.depthAll xs ∧ PyData.depthAll (xs.drop k) ≤ PyData.depthAll xs := by
  have := depth_app (xs.take k) (xs.drop k)
  rw [List.take_append_drop] at this
  omega
end Ln
namespace Ln
open PySem L2 PF
def someL : List PyData := [.none, .bool true, .bool false, .int 0, .int 1, .int 2, .int 3, .int (-1), .str "a", .str "", .str "ab", .str "A", .str "ninesigns", .str "net", .str "merge", .str "place", .tuple [], .list [], .tuple [.str "a"]]
theorem asc_lits : ∀ x ∈ (["a", "", "ab", "A", "ninesigns", "net", "merge", "place"] : List Str), asc x = true ∧ x.cps.size ≤ 9 := by decide +kernel
theorem some_ok {c W : Nat} (hc : 3 ≤ c) (hW : 1 ≤ W) : ∀ x ∈ someL, Lf c W x ∧ x.bulk ≤ 20 ∧ x.depth ≤ 1 := by
  have A := asc_lits
  have st : ∀ x ∈ (["a", "", "ab", "A", "ninesigns", "net", "merge", "place"] : List Str), Lf c W (.str x) ∧ (PyData.str x).bulk ≤ 20 ∧ (PyData.str x).depth ≤ 1 := fun x hx => ⟨.str (A x hx).1, by have := (A x hx).2; show x.cps.size ≤ 20; omega, by simp [PyData.depth]⟩
  have it : ∀ i : Int, i.natAbs ≤ 3 → Lf c W (.int i) ∧ (PyData.int i).bulk ≤ 20 ∧ (PyData.int i).depth ≤ 1 := fun i h => ⟨.int (by omega), by simp [PyData.bulk], by simp [PyData.depth]⟩
  have bl : ∀ b : Bool, Lf c W (.bool b) ∧ (PyData.bool b).bulk ≤ 20 ∧ (PyData.bool b).depth ≤ 1 := fun b => ⟨.bool b, by simp [PyData.bulk], by simp [PyData.depth]⟩
  intro x hx
  simp only [someL, List.mem_cons, List.not_mem_nil, or_false] at hx
  rcases hx with rfl | rfl | rfl | rfl | rfl | rfl | rfl | rfl | rfl | rfl | rfl | rfl | rfl | rfl | rfl | rfl | rfl | rfl | rfl
  · exact ⟨.none, by simp [PyData.bulk], by simp [PyData.depth]⟩
  · exact bl true
  · exact bl false
  · exact it 0 (by decide)
  · exact it 1 (by decide)
  · exact it 2 (by decide)
  · exact it 3 (by decide)
  · exact it (-1) (by decide)
  · exact st "a" (by simp)
  · exact st "" (by simp)
  · exact st "ab" (by simp)
  · exact st "A" (by simp)
  · exact st "ninesigns" (by simp)
  · exact st "net" (by simp)
  · exact st "merge" (by simp)
  · exact st "place" (by simp)
  · exact ⟨.tup (by simp) (fun x h => by cases h), by simp [PyData.bulk, PyData.bulkAll], by simp [PyData.depth, PyData.depthAll]⟩
  · exact ⟨.lst (by simp) (fun x h => by cases h), by simp [PyData.bulk, PyData.bulkAll], by simp [PyData.depth, PyData.depthAll]⟩
  · refine ⟨.tup (by simpa using hW) (fun x h => ?_), ?_, by simp [PyData.depth, PyData.depthAll]⟩
    · have : x = .str "a" := by simpa using h
      subst this; exact (st "a" (by simp)).1
    · have := (st "a" (by simp)).2.1
      simp only [PyData.bulk, PyData.bulkAll] at this ⊢
      have := (A "a" (by simp)).2
      omega
structure BentQ (s : S) (k c ci W B : Nat) (dp : Nat) (r : D) (s' : S) : Prop where
  ex : ∃ d', r = .da d' ∧ Lf (ci + 1) (W + 1) d' ∧ d'.bulk ≤ 2 * B + 50 ∧ d'.depth ≤ dp + 1 ∧ Fd s' k c ∧ Same k s s'
theorem letters : ∀ j : Nat, j < 26 → ∃ c, (Str.ofString "abcdefghijklmnopqrstuvwxyz").cps.toList[j]? = some c ∧ 32 ≤ c ∧ c < 127 := by decide +kernel
theorem ix_str {z : Str} {j : Nat} {c : Nat} {s : S} (hz : z.length ≤ 16777216) (h : z.cps.toList[j]? = some c) : gIx (.str z) (.int (j : Int)) s = .ok (.str ⟨#[c]⟩) s := by
  show (if z.length ≤ sizeLine then (match atI z.cps.toList (j : Int) with | some c => R.ok (D.str ⟨#[c]⟩) s | none => .bad) else .bad) = _
  rw [if_pos (by rw [sizeLine_eq']; exact hz), atI_nat h]
section
variable {s s1 : S} {k c0 c ci W B : Nat} {d : PyData} {ρ2 : Option D} {F : FF} {w : Int}
theorem bent5 (h : Fd s1 k c0) (sm : Same k s s1) (hc : c0 + 1 ≤ c) (hc2 : c < 2 ^ 40) (hci : 3 ≤ ci) (hW : 1 ≤ W) :
    (R_law_bent_5 F [some (.ref k), some (.da d), ρ2, some (.int w), none] s1).W fun fl s' => (kBody fl s').W (BentQ s k c ci W B d.depth) := by
  unfold R_law_bent_5 R_law_bent_6
  walk_at "go"
  rw [show ∀ s : S, kLst false [.da .none, .bl true, .bl false, .int 0, .int 1, .int 2, .int 3, .int (-1), .str "a", .str "", .str "ab", .str "A", .str "ninesigns", .str "net", .str "merge", .str "place", .tup [], .lst [], .tup [.str "a"]] s = .ok (.lst someL) s from fun s => rfl]
  walk_at "go"
  refine R.W_mono (draw_ok h (by decide) (by decide) (by omega)) ?_
  rintro _ s2 ⟨j, rfl, j0, j1, fd2, sm2⟩
  obtain ⟨q, rfl⟩ : ∃ q : Nat, j = (q : Int) := ⟨j.toNat, by omega⟩
  have hq : q < someL.length := by show q < 19; omega
  walk_at "go"
  rw [gIx_lst (List.getElem?_eq_getElem hq)]
  walk_at "go"
  obtain ⟨a, b, e⟩ := some_ok (c := ci + 1) (W := W + 1) (by omega) (by omega) someL[q] (List.getElem_mem hq)
  exact ⟨_, rfl, a, by omega, by omega, fd2.le hc, sm.trans sm2⟩
theorem bent4 (h : Fd s1 k c0) (sm : Same k s s1) (hc : c0 + 2 ≤ c) (hc2 : c < 2 ^ 40) (hci : 3 ≤ ci) (hW : 1 ≤ W) (hd : Lf ci W d) (hB : d.bulk ≤ B) (hB2 : B ≤ 100000) :
    (R_law_bent_4 F [some (.ref k), some (.da d), ρ2, some (.int w), none] s1).W fun fl s' => (kBody fl s').W (BentQ s k c ci W B d.depth) := by
  unfold R_law_bent_4
  walk_at "go"
  cases hd with
  | @str x ha =>
    have hx : x.length ≤ B := hB
    rw [show isiD (.str x) "str" = true from rfl]
    walk_at "go"
    rw [gNe_s]
    by_cases e : x = ""
    · subst e
      rw [show (!decide ((Str.ofString "") = (Str.ofString ""))) = false by simp]
      walk_at "go"
      exact bent5 h sm (by omega) hc2 hci hW
    · rw [show (!decide (x = (Str.ofString ""))) = true by simp only [decide_eq_false e]; rfl]
      walk_at "go"
      by_cases hw : 1 < w
      · rw [decide_eq_true hw]
        have hx0 : 0 < x.length := by
          rcases Nat.eq_zero_or_pos x.length with z | z
          · exact absurd (by
              obtain ⟨a⟩ := x
              have : a = #[] := Array.eq_empty_of_size_eq_zero z
              subst this; rfl) e
          · exact z
        walk_at "go"
        rw [len_str (by omega)]
        walk_at "go"
        refine R.W_mono (draw_ok h (by omega) (by omega) (by omega)) ?_
        rintro _ s2 ⟨j, rfl, j0, j1, fd2, sm2⟩
        walk_at "go"
        rw [sl_str' (by omega)]
        walk_at "go"
        refine R.W_mono (draw_ok fd2 (by decide) (by decide) (by omega)) ?_
        rintro _ s3 ⟨t, rfl, t0, t1, fd3, sm3⟩
        obtain ⟨q, rfl⟩ : ∃ q : Nat, t = (q : Int) := ⟨t.toNat, by omega⟩
        obtain ⟨ch, hch, c1, c2⟩ := letters q (by omega)
        walk_at "go"
        rw [ix_str (by decide +kernel) hch]
        walk_at "go"
        have l1 := (cutS_facts x none (some j)).1
        have l2 := (cutS_facts x (some (j + 1)) none).1
        have l3 : (⟨#[ch]⟩ : Str).length = 1 := rfl
        have ac : asc ⟨#[ch]⟩ = true := by
          show ([ch].all fun c => decide (32 ≤ c) && decide (c < 127)) = true
          simp [c1, c2]
        rw [gAdd_str (by omega)]
        walk_at "go"
        rw [sl_str' (by omega)]
        walk_at "go"
        rw [gAdd_str (by rw [app_len]; omega)]
        walk_at "go"
        refine ⟨_, rfl, .str (asc_app (asc_app (asc_cut ha _ _) ac) (asc_cut ha _ _)), ?_, by simp [PyData.depth], fd3.le (by omega), sm.trans (sm2.trans sm3)⟩
        show (cutS x none (some j) ++ ⟨#[ch]⟩ ++ cutS x (some (j + 1)) none).length ≤ _
        rw [app_len, app_len]; omega
      · rw [decide_eq_false hw]
        walk_at "go"
        exact bent5 h sm (by omega) hc2 hci hW
  | none => exact bent5 h sm (by omega) hc2 hci hW
  | bool b => exact bent5 h sm (by omega) hc2 hci hW
  | int _ => exact bent5 h sm (by omega) hc2 hci hW
  | tup _ _ => exact bent5 h sm (by omega) hc2 hci hW
  | lst _ _ => exact bent5 h sm (by omega) hc2 hci hW
theorem ix4L {a b c d : PyData} {j : Int} {s : S} (h0 : 1 ≤ j) (h1 : j < 5) {P : PyData → Prop} (pa : P a) (pb : P b) (pc : P c) (pd : P d) : ∃ x, P x ∧ gIx (.lst [a, b, c, d]) (.int (j - 1)) s = .ok (.da x) s := by
  have : j = 1 ∨ j = 2 ∨ j = 3 ∨ j = 4 := by omega
  rcases this with rfl | rfl | rfl | rfl
  · exact ⟨a, pa, il0⟩
  · exact ⟨b, pb, il1⟩
  · exact ⟨c, pc, il2⟩
  · exact ⟨d, pd, il3⟩
theorem bent3 (h : Fd s1 k c0) (sm : Same k s s1) (hc : c0 + 2 ≤ c) (hc2 : c < 2 ^ 40) (hci : 3 ≤ ci) (hW : 1 ≤ W) (hd : Lf ci W d) (hB : d.bulk ≤ B) (hB2 : B ≤ 100000) (w1 : w < 5) :
    (R_law_bent_3 F [some (.ref k), some (.da d), ρ2, some (.int w), none] s1).W fun fl s' => (kBody fl s').W (BentQ s k c ci W B d.depth) := by
  have go := bent4 (F := F) (ρ2 := ρ2) (w := w) h sm hc hc2 hci hW hd hB hB2
  have fin : ∀ x : PyData, (Lf (ci + 1) (W + 1) x ∧ x.bulk ≤ 2 * B + 50 ∧ x.depth ≤ d.depth + 1) → BentQ s k c ci W B d.depth (.da x) s1 := fun x q => ⟨x, rfl, q.1, q.2.1, q.2.2, h.le (by omega), sm⟩
  have ip : ∀ i : Int, i.natAbs ≤ ci + 1 → (Lf (ci + 1) (W + 1) (.int i) ∧ (PyData.int i).bulk ≤ 2 * B + 50 ∧ (PyData.int i).depth ≤ d.depth + 1) := fun i hi => ⟨.int hi, by simp [PyData.bulk], by simp [PyData.depth]⟩
  have bp : ∀ b : Bool, (Lf (ci + 1) (W + 1) (.bool b) ∧ (PyData.bool b).bulk ≤ 2 * B + 50 ∧ (PyData.bool b).depth ≤ d.depth + 1) := fun b => ⟨.bool b, by simp [PyData.bulk], by simp [PyData.depth]⟩
  unfold R_law_bent_3
  walk_at "go"
  cases hd with
  | @int i hi =>
    rw [show isiD (.int i) "int" = true from rfl]
    walk_at "go"
    by_cases hw : 0 < w
    · rw [decide_eq_true hw]
      walk_at "go"
      rw [gEq_int]
      walk_at "go"
      obtain ⟨x, px, ex⟩ := ix4L (s := s1) (a := .int (-1 - i)) (b := .int (i + 1)) (c := .int (i - 1)) (d := .bool (decide (i = 1))) (j := w) (by omega) w1 (P := fun x => Lf (ci + 1) (W + 1) x ∧ x.bulk ≤ 2 * B + 50 ∧ x.depth ≤ (PyData.int i).depth + 1) (ip _ (by omega)) (ip _ (by omega)) (ip _ (by omega)) (bp _)
      rw [ex]
      walk_at "go"
      exact fin x px
    · rw [decide_eq_false hw]
      walk_at "go"
      exact go
  | bool b =>
    rw [show isiD (.bool b) "int" = true from rfl]
    walk_at "go"
    by_cases hw : 0 < w
    · rw [decide_eq_true hw]
      walk_at "go"
      rw [gEq_da rfl rfl]
      walk_at "go"
      have hb : (b01 b).natAbs ≤ 1 := by cases b <;> decide
      obtain ⟨x, px, ex⟩ := ix4L (s := s1) (a := .int (-1 - b01 b)) (b := .int (b01 b + 1)) (c := .int (b01 b - 1)) (d := .bool (PyData.eqv (.bool b) (.int 1))) (j := w) (by omega) w1 (P := fun x => Lf (ci + 1) (W + 1) x ∧ x.bulk ≤ 2 * B + 50 ∧ x.depth ≤ (PyData.bool b).depth + 1) (ip _ (by omega)) (ip _ (by omega)) (ip _ (by omega)) (bp _)
      rw [ex]
      walk_at "go"
      exact fin x px
    · rw [decide_eq_false hw]
      walk_at "go"
      exact go
  | none => exact go
  | str _ => exact go
  | tup _ _ => exact go
  | lst _ _ => exact go
end
end Ln
namespace Ln
open PySem L2 PF
theorem bulk_drop_le (xs : List PyData) (k : Nat) : PyData.bulkAll (xs.drop k) ≤ PyData.bulkAll xs := by have := bulk_take xs k; omega
theorem bulk_take_le (xs : List PyData) (k : Nat) : PyData.bulkAll (xs.take k) ≤ PyData.bulkAll xs := by have := bulk_take xs k; omega
theorem eqv_tnil (xs : List PyData) : PyData.eqv (.tuple xs) (.tuple []) = xs.isEmpty := by cases xs <;> rfl
section
variable {s s1 : S} {k c0 c ci W B : Nat} {d : PyData} {ρ2 : Option D} {F : FF} {w : Int}
theorem bent2 (h : Fd s1 k c0) (sm : Same k s s1) (hc : c0 + 2 ≤ c) (hc2 : c < 2 ^ 40) (hci : 3 ≤ ci) (hW : 1 ≤ W) (hW2 : W ≤ 1000) (hd : Lf ci W d) (hB : d.bulk ≤ B) (hB2 : B ≤ 100000) (w1 : w < 5) :
    (R_law_bent_2 F [some (.ref k), some (.da d), ρ2, some (.int w), none] s1).W fun fl s' => (kBody fl s').W (BentQ s k c ci W B d.depth) := by
  have go := bent3 (F := F) (ρ2 := ρ2) (w := w) h sm hc hc2 hci hW hd hB hB2 w1
  unfold R_law_bent_2
  walk_at "go"
  cases hd with
  | @tup ds hl hx =>
    have hB' : PyData.bulkAll ds ≤ B := by simpa only [PyData.bulk] using hB
    rw [show isiD (.tuple ds) "tuple" = true from rfl]
    walk_at "go"
    by_cases hw : 0 < w
    · rw [decide_eq_true hw]
      walk_at "go"
      refine R.W_mono (draw_ok h (by omega) (by omega) (by omega)) ?_
      rintro _ s2 ⟨j, rfl, j0, j1, fd2, sm2⟩
      obtain ⟨t, rfl⟩ : ∃ t : Nat, j = (t : Int) := ⟨j.toNat, by omega⟩
      walk_at "go"
      rw [show (t : Int) + 1 = ((t + 1 : Nat) : Int) by omega, cut_to, cut_fromA]
      rw [gAdd_tup (by simp; omega)]
      walk_at "go"
      try rw [show (t : Int) + 1 = ((t + 1 : Nat) : Int) by omega]
      rw [cut_to, cut_fromA]
      rw [gAdd_tup (by simp; omega)]
      walk_at "go"
      have all : ∀ (f : List PyData → PyData) (es : List PyData), (f = PyData.tuple ∨ f = PyData.list) → es.length ≤ W + 1 → (∀ x ∈ es, x ∈ ds) → PyData.bulkAll es ≤ 2 * B + 50 → PyData.depthAll es ≤ PyData.depthAll ds → (Lf (ci + 1) (W + 1) (f es) ∧ (f es).bulk ≤ 2 * B + 50 ∧ (f es).depth ≤ (PyData.tuple ds).depth + 1) := by
        intro f es hf h1 h2 h3 h4
        rcases hf with rfl | rfl
        · exact ⟨.tup h1 fun x hm => (hx x (h2 x hm)).mono (by omega) (by omega), by simpa only [PyData.bulk] using h3, by simp only [PyData.depth]; omega⟩
        · exact ⟨.lst h1 fun x hm => (hx x (h2 x hm)).mono (by omega) (by omega), by simpa only [PyData.bulk] using h3, by simp only [PyData.depth]; omega⟩
      have t1 := bulk_take_le ds t
      have t2 := bulk_drop_le ds (t + 1)
      have t3 := bulk_take_le ds (t + 1)
      have t4 := bulk_drop_le ds t
      have u1 := bulk_take ds t
      have u2 := bulk_take ds (t + 1)
      have d1 := depth_take ds t
      have d2 := depth_take ds (t + 1)
      obtain ⟨x, px, ex⟩ := ix4L (s := s2) (a := .list ds) (b := .tuple (ds.take t ++ ds.drop (t + 1))) (c := .tuple (ds.take (t + 1) ++ ds.drop t)) (d := .tuple ds.reverse) (j := w) (by omega) w1 (P := fun x => Lf (ci + 1) (W + 1) x ∧ x.bulk ≤ 2 * B + 50 ∧ x.depth ≤ (PyData.tuple ds).depth + 1)
        (all PyData.list ds (.inr rfl) (by omega) (fun _ h => h) (by omega) (Nat.le_refl _))
        (all PyData.tuple _ (.inl rfl) (by simp; omega) (fun x hm => (List.mem_append.mp hm).elim List.mem_of_mem_take List.mem_of_mem_drop) (by rw [bulk_app]; omega) (by rw [depth_app]; omega))
        (all PyData.tuple _ (.inl rfl) (by simp; omega) (fun x hm => (List.mem_append.mp hm).elim List.mem_of_mem_take List.mem_of_mem_drop) (by rw [bulk_app]; omega) (by rw [depth_app]; omega))
        (all PyData.tuple _ (.inl rfl) (by simp; omega) (fun x hm => List.mem_reverse.mp hm) (by rw [bulk_rev]; omega) (by rw [depth_rev]; exact Nat.le_refl _))
      rw [ex]
      walk_at "go"
      exact ⟨x, rfl, px.1, px.2.1, px.2.2, fd2.le (by omega), sm.trans sm2⟩
    · rw [decide_eq_false hw]
      walk_at "go"
      exact go
  | none => exact go
  | bool b => exact go
  | int _ => exact go
  | str _ => exact go
  | lst _ _ => exact go
theorem bent1 {ρ3 : Option D} (h : Fd s1 k c0) (sm : Same k s s1) (hc : c0 + 3 ≤ c) (hc2 : c < 2 ^ 40) (hci : 3 ≤ ci) (hW : 1 ≤ W) (hW2 : W ≤ 1000) (hd : Lf ci W d) (hB : d.bulk ≤ B) (hB2 : B ≤ 100000) :
    (R_law_bent_1 F [some (.ref k), some (.da d), ρ2, ρ3, none] s1).W fun fl s' => (kBody fl s').W (BentQ s k c ci W B d.depth) := by
  unfold R_law_bent_1
  walk_at "go"
  refine R.W_mono (draw_ok h (by decide) (by decide) (by omega)) ?_
  rintro _ s2 ⟨j, rfl, j0, j1, fd2, sm2⟩
  walk_at "go"
  exact bent2 fd2 (sm.trans sm2) (by omega) hc2 hci hW hW2 hd hB hB2 j1
end
theorem bent_ok : ∀ (n : Nat) {s : S} {k c ci W B : Nat} {d : PyData}, Fd s k c → Lf ci W d → d.bulk ≤ B → d.depth < n → 3 ≤ ci → ci < 1000 → 1 ≤ W → W ≤ 1000 → B ≤ 100000 → n ≤ 60 → c + 6 * n < 2 ^ 40 → (F_law_bent n [.ref k, .da d] s).W (BentQ s k (c + 6 * n) ci W B d.depth)
  | 0, s, k, c, ci, W, B, d, _, _, _, h, _, _, _, _, _, _, _ => by omega
  | n + 1, s, k, c, ci, W, B, d, h, hd, hB, hn, c3, c1000, W1, W2, hB2, n60, hc => by
    rw [e_law_bent, R.W_bind]
    unfold B_law_bent
    have go : ∀ s1 ρ2 ρ3, Fd s1 k (c + 2) → Same k s s1 → (R_law_bent_1 (F_law_bent n) [some (.ref k), some (.da d), ρ2, ρ3, none] s1).W fun fl s' => (kBody fl s').W (BentQ s k (c + 6 * (n + 1)) ci W B d.depth) := fun s1 ρ2 ρ3 fd sm => bent1 fd sm (by omega) hc c3 W1 W2 hd hB hB2
    walk_at "go"
    by_cases ht : ∃ ds, d = .tuple ds
    · obtain ⟨ds, rfl⟩ := ht
      rw [show isiD (.tuple ds) "tuple" = true from rfl]
      have okt : okD (.tuple ds) = true := (hd.nice (B := B) (D := 60) (by omega) hB (by omega)).okD (by decide)
      walk_at "go"
      rw [gNe_da okt rfl, eqv_tnil]
      cases hds : ds.isEmpty with
      | true =>
        walk_at "go"
        exact go s _ _ (h.le (by omega)) (Same.refl _ _)
      | false =>
        walk_at "go"
        refine R.W_mono (draw_ok h (by decide) (by decide) (by omega)) ?_
        rintro _ s1 ⟨j, rfl, j0, j1, fd1, sm1⟩
        walk_at "go"
        by_cases hj : 0 < j
        · rw [decide_eq_true hj]
          have hne : 0 < ds.length := by
            cases ds with
            | nil => cases hds
            | cons => simp
          cases hd with
          | tup hl hx =>
          walk_at "go"
          refine R.W_mono (draw_ok fd1 (by omega) (by omega) (by omega)) ?_
          rintro _ s2 ⟨t, rfl, t0, t1, fd2, sm2⟩
          obtain ⟨q, rfl⟩ : ∃ q : Nat, t = (q : Int) := ⟨t.toNat, by omega⟩
          have hq : q < ds.length := by omega
          have gq : ds[q]? = some ds[q] := List.getElem?_eq_getElem hq
          have hB' : PyData.bulkAll ds ≤ B := by simpa only [PyData.bulk] using hB
          obtain ⟨b1, b2⟩ := bulk_split gq
          have dd : (PyData.tuple ds).depth = PyData.depthAll ds + 1 := by simp only [PyData.depth]
          walk_at "go"
          rw [gIx_tup gq]
          walk_at "go"
          refine R.W_mono (bent_ok n (B := (ds[q]).bulk) fd2 (hx _ (List.getElem_mem hq)) (Nat.le_refl _) (by omega) c3 c1000 W1 W2 (by omega) (by omega) (by omega)) ?_
          rintro _ s3 ⟨d', rfl, lf, bk, dp, fd3, sm3⟩
          walk_at "go"
          rw [cut_to]
          rw [gAdd_tup (by simp; omega)]
          walk_at "go"
          rw [show (q : Int) + 1 = ((q + 1 : Nat) : Int) by omega, cut_fromA]
          rw [gAdd_tup (by simp; omega)]
          walk_at "go"
          have d1 := depth_take ds q
          have d2 := depth_take ds (q + 1)
          refine ⟨_, rfl, .tup (by simp; omega) (fun x hm => ?_), ?_, ?_, fd3.le (by omega), sm1.trans (sm2.trans sm3)⟩
          · rcases List.mem_append.mp hm with z | z
            · exact (hx x (List.mem_of_mem_take z)).mono (by omega) (by omega)
            · rcases List.mem_cons.mp z with rfl | z
              · exact lf
              · exact (hx x (List.mem_of_mem_drop z)).mono (by omega) (by omega)
          · show PyData.bulkAll _ ≤ _
            rw [bulk_app]
            simp only [PyData.bulkAll]
            omega
          · simp only [PyData.depth, depth_app, PyData.depthAll]
            omega
        · rw [decide_eq_false hj]
          walk_at "go"
          exact go s1 _ _ (fd1.le (by omega)) sm1
    · rw [show isiD d "tuple" = false by cases d <;> first | rfl | exact absurd ⟨_, rfl⟩ ht]
      walk_at "go"
      exact go s _ _ (h.le (by omega)) (Same.refl _ _)
end Ln
namespace Ln
open PySem L2 PF
noncomputable def LB3 : FS :=
    (fIfS (fNotT (fTru (fCall 2 F_law_right (fCons (fVar 3) (fCons (fVar 11) fNil))))) (fRet (fC (.da (.bool false)))) fNext)
noncomputable def LB2 : FS :=
    (fSeq (fSet 7 (fLc false [1] 1 (fIt (fCall 1 F_law_names (fCons (fVar 3) fNil))) (.nm 0) (fTest (fOp gEq (fCall 2 F_law_draw (fCons (fVar 1) (fCons (fC (.da (.int 2))) fNil))) (fC (.da (.int 0))))) (fVar 0))) (fSeq (fSet 8 (fCB gTuple (fCons (fLc false [1, 3] 1 (fIt (fVar 7)) (.nm 0) fYes (fTup (fCons (fVar 0) (fCons (fCall 2 F_law_draw (fCons (fVar 1) (fCons (fOp gIx (fVar 2) (fC (.da (.int 0)))) fNil))) fNil)))) fNil))) (fSeq (fSet 9 (fCall 2 (F_law_bent 12) (fCons (fVar 1) (fCons (fVar 8) fNil)))) (fSeq (fSet 10 (fCB gTuple (fCons (fLc false [1, 3] 1 (fIt (fVar 4)) (.nm 0) fYes (fOp gIx (fLst false (fCons (fC (.da (.none))) (fCons (fC (.da (.int 0))) (fCons (fOp gSub (fOp gIx (fVar 2) (fC (.da (.int 0)))) (fC (.da (.int 1)))) fNil)))) (fCall 2 F_law_draw (fCons (fVar 1) (fCons (fC (.da (.int 3))) fNil))))) fNil))) (fSet 5 (fOp (gAdd false) (fVar 5) (fLst false (fCons (fVar 8) (fCons (fVar 9) (fCons (fCall 2 (F_law_bent 12) (fCons (fVar 1) (fCons (fVar 9) fNil))) (fCons (fVar 10) (fCons (fCall 2 (F_law_bent 12) (fCons (fVar 1) (fCons (fVar 10) fNil))) fNil))))))))))))
noncomputable def LB1 : FS :=
    (fSeq (fSet 3 (fCall 3 F_law_flat (fCons (fVar 1) (fCons (fCall 2 F_law_ports (fCons (fVar 1) (fCons (fOp (gAdd false) (fC (.da (.int 2))) (fCall 2 F_law_draw (fCons (fVar 1) (fCons (fC (.da (.int 6))) fNil)))) fNil))) (fCons (fC (.da (.int 6))) fNil))))) (fSeq (fSet 4 (fCB gTuple (fCons (fLc false [] 1 (fIt (fOp gIx (fVar 3) (fC (.da (.int 2))))) (.nm 0) (fTest (fOp gIn (fOp gIx (fVar 0) (fC (.da (.int 0)))) (fTup (fVs (List.map D.da [.str "place", .str "last"]))))) (fOp gIx (fVar 0) (fC (.da (.int 3))))) fNil))) (fSeq (fIfS (fTest (fOp gNe (fCB gRepr (fCons (fCall 1 Ffirst_stand (fCons (fVar 3) fNil)) fNil)) (fCB gRepr (fCons (fVar 4) fNil)))) (fRet (fC (.da (.bool false)))) fNext) (fSeq (fSet 5 (fLst false (fCons (fTup fNil) (fCons (fC (.da (.none))) (fCons (fLst false fNil) (fCons (fTup (fCons (fC (.da (.none))) fNil)) (fCons (fC (.da (.int 0))) (fCons (fC (.da (.str "a"))) (fCons (fTup (fCons (fTup (fVs (List.map D.da [.str "a", .int 0]))) fNil)) (fCons (fOp (gAdd false) (fVar 4) (fTup (fCons (fC (.da (.none))) fNil))) (fCons (fSl false (fVar 4) (fSome (fC (.da (.int 1)))) fNo) (fCons (fCB (gList false) (fCons (fVar 4) fNil)) (fCons (fVar 3) fNil))))))))))))) (fSeq (fFor (fRng (fCons (fC (.da (.int 6))) fNil)) (.nm 6) LB2) (fFor (fIt (fVar 5)) (.nm 11) LB3))))))
theorem Blaw_eq : Blaw = (fSeq (fSet 1 (fCall 1 F_law_feed (fCons (fVar 0) fNil))) (fSeq (fFor (fRng (fCons (fC (.da (.int 4))) fNil)) (.nm 2) LB1) (fRet (fC (.da (.bool true)))))) := rfl
theorem thing_of {ci W B D : Nat} {d : PyData} (h : Lf ci W d) (hc : ci < 1000000) (hW : W ≤ 50) (hb : d.bulk ≤ B) (hB : B ≤ 100000) (hd : d.depth ≤ D) (hD : D ≤ 40) : Thing d := by
  refine ⟨h.nice hc (by omega) (by omega), fun ds e => ?_⟩
  subst e
  cases h with
  | tup hl _ => omega
theorem lf_str {x : Str} {ci W : Nat} (h : okPort x = true) : Lf ci W (.str x) := .str (port_asc h)
theorem moment_lf {ps : List PyData} (h : ∀ p ∈ ps, ∃ x i, p = .tuple [.str x, .int i] ∧ okPort x = true ∧ 0 ≤ i ∧ i ≤ 3) (hl : ps.length ≤ 36) : Lf 3 36 (.tuple ps) ∧ (PyData.tuple ps).bulk ≤ 1000 ∧ (PyData.tuple ps).depth ≤ 3 := by
  have n : Nices ((22 + 1) * ps.length) 1 ps := nices_all ps fun p hp => by
    obtain ⟨x, i, rfl, hx, h0, h1⟩ := h p hp
    exact (Nices.cons (nice_str hx) (Nices.cons (nice_small (by omega) (by omega)) Nices.nil)).tup.mono (by decide) (by decide)
  have t := n.tup
  refine ⟨.tup hl fun p hp => ?_, Nat.le_trans t.bk (by omega), Nat.le_trans t.dp (by decide)⟩
  obtain ⟨x, i, rfl, hx, h0, h1⟩ := h p hp
  refine .tup (by simp) fun y hy => ?_
  simp only [List.mem_cons, List.not_mem_nil, or_false] at hy
  rcases hy with rfl | rfl
  · exact lf_str hx
  · exact .int (by omega)
theorem stand_lf {ps : List PyData} (h : ∀ p ∈ ps, p = .none ∨ ∃ i, p = .int i ∧ 0 ≤ i ∧ i ≤ 3) (hl : ps.length ≤ 36) : Lf 3 36 (.tuple ps) ∧ (PyData.tuple ps).bulk ≤ 1000 ∧ (PyData.tuple ps).depth ≤ 3 := by
  have n : Nices ((0 + 1) * ps.length) 0 ps := nices_all ps fun p hp => by
    rcases h p hp with rfl | ⟨i, rfl, h0, h1⟩
    · exact nice_none
    · exact nice_small (by omega) (by omega)
  have t := n.tup
  refine ⟨.tup hl fun p hp => ?_, Nat.le_trans t.bk (by omega), Nat.le_trans t.dp (by decide)⟩
  rcases h p hp with rfl | ⟨i, rfl, h0, h1⟩
  · exact .none
  · exact .int (by omega)
structure NmJ (n c : Nat) (r acc : List D) (s : S) : Prop where
  ex : ∃ (l l2 : List Str), r = (l2.map PyData.str).map D.da ∧ acc = (l.map PyData.str).map D.da ∧ (∀ x ∈ l, okPort x = true) ∧ (∀ x ∈ l2, okPort x = true) ∧ l.length + l2.length ≤ 36 ∧ ∃ c', Fd s n c' ∧ c' + l2.length ≤ c
structure MoJ (n c : Nat) (r acc : List D) (s : S) : Prop where
  ex : ∃ (ps : List PyData) (l2 : List Str), r = (l2.map PyData.str).map D.da ∧ acc = ps.map D.da ∧ (∀ p ∈ ps, ∃ x i, p = .tuple [.str x, .int i] ∧ okPort x = true ∧ 0 ≤ i ∧ i ≤ 3) ∧ (∀ x ∈ l2, okPort x = true) ∧ ps.length + l2.length ≤ 36 ∧ ∃ c', Fd s n c' ∧ c' + l2.length ≤ c
structure StJ (n c : Nat) (r acc : List D) (s : S) : Prop where
  ex : ∃ (ps l2 : List PyData), r = l2.map D.da ∧ acc = ps.map D.da ∧ (∀ p ∈ ps, p = .none ∨ ∃ i, p = .int i ∧ 0 ≤ i ∧ i ≤ 3) ∧ ps.length + l2.length ≤ 6 ∧ ∃ c', Fd s n c' ∧ c' + l2.length ≤ c
theorem ix3L {a b c : PyData} {j : Int} {s : S} (h0 : 0 ≤ j) (h1 : j < 3) {P : PyData → Prop} (pa : P a) (pb : P b) (pc : P c) : ∃ x, P x ∧ gIx (.lst [a, b, c]) (.int j) s = .ok (.da x) s := by
  have : j = 0 ∨ j = 1 ∨ j = 2 := by omega
  rcases this with rfl | rfl | rfl
  · exact ⟨a, pa, il0⟩
  · exact ⟨b, pb, il1⟩
  · exact ⟨c, pc, il2⟩
theorem map_cons_inv {α β : Type} {f : α → β} {d : β} {r : List β} {l : List α} (h : d :: r = l.map f) : ∃ x l', l = x :: l' ∧ d = f x ∧ r = l'.map f := by
  cases l with
  | nil => cases h
  | cons x l' => simp only [List.map_cons, List.cons.injEq] at h; exact ⟨x, l', rfl, h.1, h.2⟩
structure ThJ (n c : Nat) (scr net : D) (due : List PyData) (r : List D) (ρ : En) (s : S) : Prop where
  ex : ∃ (xs : List PyData) (x2 x6 x7 x8 x9 x10 x11 : Option D), ρ = [some scr, some (.ref n), x2, some net, some (.tup due), some (.lst xs), x6, x7, x8, x9, x10, x11] ∧ (∀ x ∈ xs, Thing x) ∧ xs.length + 5 * r.length ≤ 41 ∧ ∃ c', Fd s n c' ∧ c' + 400 * r.length ≤ c
theorem names_len {m : Int} {ps seen : List Str} {parts : List PyData} (hp : ∀ p ∈ parts, ∃ qs, PartD m ps p qs) (hl : parts.length ≤ 6) (hs : seen.length ≤ 6) : (namesD seen parts).length ≤ 36 := by
  have a := allP_len (seen := seen) hp
  unfold namesD
  have b : (srtS (uniq (allP seen parts))).length ≤ (allP seen parts).length := by rw [(srt_perm _).length_eq]; exact (uniq_facts _).2.2
  omega
theorem names_ok {m : Int} {ps seen : List Str} {parts : List PyData} (hs : ∀ x ∈ seen, x ∈ ps) (hp : ∀ p ∈ parts, ∃ qs, PartD m ps p qs) (ok : ∀ x ∈ ps, okPort x = true) : ∀ x ∈ namesD seen parts, okPort x = true := by
  intro x hx
  have h1 : x ∈ uniq (allP seen parts) := (srt_perm _).mem_iff.mp hx
  exact ok x (allP_sub hs hp x (((uniq_facts _).2.1 x).mp h1))
theorem turn_ok {n c : Nat} {scr : D} {m : Int} {seen : List Str} {parts : List PyData} {ps : List Str} {due : List PyData} (N : NetD (.tuple [.int m, .tuple (seen.map PyData.str), .tuple parts]) m seen parts ps) (hdue : due.length ≤ 6) (hc : c ≤ 100000)
    {d : D} {r : List D} {ρ : En} {s : S} (J : ThJ n c scr (.tup [.int m, .tuple (seen.map PyData.str), .tuple parts]) due (d :: r) ρ s) :
    ∃ ρ1, setD (.nm 6) d ρ = some ρ1 ∧ (LB2 ρ1 s).W fun fl s' => ∃ ρ', fl = .nx ρ' ∧ ThJ n c scr (.tup [.int m, .tuple (seen.map PyData.str), .tuple parts]) due r ρ' s' := by
  obtain ⟨xs, x2, x6, x7, x8, x9, x10, x11, rfl, hxs, hl, c', fd, hcc⟩ := J.ex
  rw [List.length_cons] at hl hcc
  refine ⟨_, l_nm6, ?_⟩
  unfold LB2
  walk_at "go"
  refine R.W_mono (v_names N.pd N.pl N.sl) ?_
  rintro _ s1 ⟨rfl, ex1⟩
  have nl := names_len N.pd N.pl N.sl
  walk_at "go"
  rw [e_lc1 (ρ0 := [none, some (D.ref n)]) (by simp; omega) rfl]
  simp only [R.W_bindk]
  refine R.W_mono (comp_inv (acc := []) (Q := fun xs s' => NmJ n (c' + 36) [] xs s') (NmJ n (c' + 36)) ?_ (fun acc s h => h) _ _ ⟨[], namesD seen parts, rfl, rfl, fun x h => (by cases h), names_ok N.sp N.pd N.ok, by simp; omega, c', fd.ext ex1, by omega⟩) ?_
  · rintro d r acc s2 ⟨l, l2, e, rfl, hl1, hl2, hll, c2, fd2, hc2⟩
    rw [List.map_map] at e
    obtain ⟨x, l3, rfl, rfl, rfl⟩ := map_cons_inv e
    rw [List.length_cons] at hll hc2
    refine ⟨_, l_nm0, ?_⟩
    walk_at "go"
    refine R.W_mono (draw_ok fd2 (by decide) (by decide) (by omega)) ?_
    rintro _ s3 ⟨i, rfl, i0, i1, fd3, sm3⟩
    walk_at "go"
    rw [gEq_int]
    by_cases hi : i = 0
    · rw [decide_eq_true hi]
      walk_at "go"
      refine ⟨l ++ [x], l3, by rw [List.map_map], by simp, fun y hy => ?_, fun y hy => hl2 y (List.mem_cons_of_mem _ hy), by simp; omega, _, fd3, by omega⟩
      rcases List.mem_append.mp hy with z | z
      · exact hl1 y z
      · have : y = x := by simpa using z
        subst this; exact hl2 _ List.mem_cons_self
    · rw [decide_eq_false hi]
      walk_at "go"
      exact ⟨l, l3, by rw [List.map_map], rfl, hl1, fun y hy => hl2 y (List.mem_cons_of_mem _ hy), by omega, _, fd3, by omega⟩
  rintro xs1 s2 ⟨l, l2, e0, e, hl1, _, hll, c2, fd2, hc2⟩
  rw [List.nil_append] at e
  subst e
  walk_at "go"
  rw [e_lc1 (ρ0 := [none, some (D.ref n), some (.tup [.int m, .tuple (seen.map PyData.str), .tuple parts])]) (by simp; omega) rfl]
  simp only [R.W_bindk]
  refine R.W_mono (comp_inv (acc := []) (Q := fun xs s' => MoJ n (c2 + 36) [] xs s') (MoJ n (c2 + 36)) ?_ (fun acc s h => h) _ _ ⟨[], l, rfl, rfl, fun x h => (by cases h), hl1, by simp; omega, c2, fd2, by omega⟩) ?_
  · rintro d r acc s2 ⟨qs, l2, e, rfl, hq1, hl2, hll, c2, fd2, hc2⟩
    rw [List.map_map] at e
    obtain ⟨x, l3, rfl, rfl, rfl⟩ := map_cons_inv e
    rw [List.length_cons] at hll hc2
    refine ⟨_, l_nm0, ?_⟩
    walk_at "go"
    have := N.m1
    have := N.m3
    refine R.W_mono (draw_ok fd2 (by omega) (by omega) (by omega)) ?_
    rintro _ s3 ⟨i, rfl, i0, i1, fd3, sm3⟩
    simp only [Function.comp]
    walk_at "go"
    refine ⟨qs ++ [.tuple [.str x, .int i]], l3, by rw [List.map_map], by simp, fun y hy => ?_, fun y hy => hl2 y (List.mem_cons_of_mem _ hy), by simp; omega, _, fd3, by omega⟩
    rcases List.mem_append.mp hy with z | z
    · exact hq1 y z
    · have : y = .tuple [.str x, .int i] := by simpa using z
      subst this; exact ⟨x, i, rfl, hl2 _ List.mem_cons_self, i0, by omega⟩
  rintro xs2 s3 ⟨qs, l4, e4, e, hqs, _, hq36, c3, fd3, hc3⟩
  rw [List.nil_append] at e
  subst e
  obtain ⟨lf, bk, dp⟩ := moment_lf hqs (by omega)
  walk_at "go"
  refine R.W_mono (bent_ok 12 (B := 1000) fd3 lf bk (by omega) (by decide) (by decide) (by decide) (by decide) (by decide) (by decide) (by omega)) ?_
  rintro _ s4 ⟨b1, rfl, lf1, bk1, dp1, fd4, sm4⟩
  walk_at "go"
  rw [e_lc1 (ρ0 := [none, some (D.ref n), some (.tup [.int m, .tuple (seen.map PyData.str), .tuple parts])]) (by simp; omega) rfl]
  simp only [R.W_bindk]
  refine R.W_mono (comp_inv (acc := []) (Q := fun xs s' => StJ n (c3 + 6 * 12 + 6) [] xs s') (StJ n (c3 + 6 * 12 + 6)) ?_ (fun acc s h => h) _ _ ⟨[], due, rfl, rfl, fun x h => (by cases h), by simp; omega, _, fd4, by omega⟩) ?_
  · rintro d r acc s2 ⟨qs, l2, e, rfl, hq1, hll, c2, fd2, hc2⟩
    obtain ⟨x, l3, rfl, rfl, rfl⟩ := map_cons_inv e
    rw [List.length_cons] at hll hc2
    refine ⟨_, l_nm0, ?_⟩
    walk_at "go"
    have := N.m1
    have := N.m3
    refine R.W_mono (draw_ok fd2 (by omega) (by omega) (by omega)) ?_
    rintro _ s3 ⟨i, rfl, i0, i1, fd3, sm3⟩
    obtain ⟨y, py, ey⟩ := ix3L (s := s3) (a := .none) (b := .int 0) (c := .int (m - 1)) i0 i1 (P := fun p => p = .none ∨ ∃ i, p = .int i ∧ 0 ≤ i ∧ i ≤ 3) (.inl rfl) (.inr ⟨0, rfl, by omega, by omega⟩) (.inr ⟨m - 1, rfl, by omega, by omega⟩)
    walk_at "go"
    rw [ey]
    walk_at "go"
    refine ⟨qs ++ [y], l3, rfl, by simp, fun z hz => ?_, by simp; omega, _, fd3, by omega⟩
    rcases List.mem_append.mp hz with h | h
    · exact hq1 z h
    · have : z = y := by simpa using h
      subst this; exact py
  rintro xs3 s5 ⟨st, l5, e5, e, hst, hs6, c5, fd5, hc5⟩
  rw [List.nil_append] at e
  subst e
  obtain ⟨lfs, bks, dps⟩ := stand_lf hst (by omega)
  walk_at "go"
  refine R.W_mono (bent_ok 12 (B := 2 * 1000 + 50) fd5 lf1 bk1 (by omega) (by decide) (by decide) (by decide) (by decide) (by decide) (by decide) (by omega)) ?_
  rintro _ s6 ⟨b2, rfl, lf2, bk2, dp2, fd6, sm6⟩
  walk_at "go"
  refine R.W_mono (bent_ok 12 (B := 1000) fd6 lfs bks (by omega) (by decide) (by decide) (by decide) (by decide) (by decide) (by decide) (by omega)) ?_
  rintro _ s7 ⟨b3, rfl, lf3, bk3, dp3, fd7, sm7⟩
  walk_at "go"
  rw [gAdd_lst (by simp; omega)]
  walk_at "go"
  refine ⟨_, rfl, _, x2, _, _, _, _, _, _, rfl, fun x hx => ?_, by simp; omega, _, fd7, by omega⟩
  rcases List.mem_append.mp hx with z | z
  · exact hxs x z
  · simp only [List.mem_cons, List.not_mem_nil, or_false] at z
    rcases z with rfl | rfl | rfl | rfl | rfl
    · exact thing_of lf (by decide) (by decide) bk (by decide) dp (by decide)
    · exact thing_of lf1 (by decide) (by decide) bk1 (by decide) dp1 (by omega)
    · exact thing_of lf2 (by decide) (by decide) bk2 (by decide) dp2 (by omega)
    · exact thing_of lfs (by decide) (by decide) bks (by decide) dps (by decide)
    · exact thing_of lf3 (by decide) (by decide) bk3 (by decide) dp3 (by omega)
structure RiJ (n c : Nat) (scr net : D) (r : List D) (ρ : En) (s : S) : Prop where
  ex : ∃ (l : List PyData) (x2 x4 x5 x6 x7 x8 x9 x10 x11 : Option D), r = l.map D.da ∧ ρ = [some scr, some (.ref n), x2, some net, x4, x5, x6, x7, x8, x9, x10, x11] ∧ (∀ x ∈ l, Thing x) ∧ Fd s n c
theorem right_ok {n c : Nat} {scr : D} {net : PyData} {m : Int} {seen : List Str} {parts : List PyData} {ps : List Str} (N : NetD net m seen parts ps)
    {d : D} {r : List D} {ρ : En} {s : S} (J : RiJ n c scr (.da net) (d :: r) ρ s) :
    ∃ ρ1, setD (.nm 11) d ρ = some ρ1 ∧ (LB3 ρ1 s).W fun fl s' => ∃ ρ', fl = .nx ρ' ∧ RiJ n c scr (.da net) r ρ' s' := by
  obtain ⟨l, x2, x4, x5, x6, x7, x8, x9, x10, x11, e, rfl, hl, fd⟩ := J.ex
  obtain ⟨x, l3, rfl, rfl, rfl⟩ := map_cons_inv e
  refine ⟨_, l_nm11, ?_⟩
  unfold LB3
  walk_at "go"
  refine R.W_mono (v_right N (hl x List.mem_cons_self)) ?_
  rintro _ s1 ⟨rfl, ex1⟩
  walk_at "go"
  exact ⟨_, rfl, l3, x2, x4, x5, x6, x7, x8, x9, x10, _, rfl, rfl, fun y hy => hl y (List.mem_cons_of_mem _ hy), fd.ext ex1⟩
structure OuJ (n c : Nat) (scr : D) (r : List D) (ρ : En) (s : S) : Prop where
  ex : ∃ (x2 x3 x4 x5 x6 x7 x8 x9 x10 x11 : Option D), ρ = [some scr, some (.ref n), x2, x3, x4, x5, x6, x7, x8, x9, x10, x11] ∧ ∃ c', Fd s n c' ∧ c' + 3000 * r.length ≤ c
theorem due_ok {m : Int} {ps : List Str} {parts : List PyData} {s : S} (hp : ∀ p ∈ parts, ∃ qs, PartD m ps p qs) : compF (.nm 0) (fTest (fOp gIn (fOp gIx (fVar 0) (fC (.da (.int 0)))) (fTup (fVs (List.map D.da [.str "place", .str "last"]))))) (fOp gIx (fVar 0) (fC (.da (.int 3)))) [none] (parts.map D.da, none) (parts.map D.da) s = .ok (((parts.filter isHold).map heldOf).map D.da) s := by
  rw [comp_pure (rest := []) isHold (fun x => .da (heldOf x)), map_da]
  · intro p hm
    obtain ⟨qs, hq⟩ := hp p hm
    obtain ⟨w, r, rfl, hw⟩ := hq.word
    walk_at "ev"
    rw [gIn_lit2 (word_okD w hw)]
    rfl
  · intro p hm hh
    obtain ⟨qs, hq⟩ := hp p hm
    obtain ⟨w, a, b, x, rfl, e, _⟩ := hq.hold hh
    walk_at "ev"
    rw [e]
theorem due_lf {m : Int} {ps : List Str} {parts : List PyData} (hp : ∀ p ∈ parts, ∃ qs, PartD m ps p qs) (hm : m ≤ 3) : ∀ x ∈ (parts.filter isHold).map heldOf, x = .none ∨ ∃ i, x = .int i ∧ 0 ≤ i ∧ i ≤ 3 := by
  intro x hx
  obtain ⟨p, hp1, rfl⟩ := List.mem_map.mp hx
  obtain ⟨hp2, hh⟩ := List.mem_filter.mp hp1
  obtain ⟨qs, hq⟩ := hp p hp2
  obtain ⟨w, a, b, x, rfl, e, hx⟩ := hq.hold hh
  rw [e]
  rcases hx with rfl | ⟨i, rfl, h0, h1⟩
  · exact .inl rfl
  · exact .inr ⟨i, rfl, h0, by omega⟩
theorem str_a : okPort (Str.ofString "a") = true := by decide +kernel
theorem first_things {m : Int} {seen : List Str} {parts : List PyData} {ps : List Str} {due : List PyData} (N : NetD (.tuple [.int m, .tuple (seen.map PyData.str), .tuple parts]) m seen parts ps) (dv : ∀ x ∈ due, x = .none ∨ ∃ i, x = .int i ∧ 0 ≤ i ∧ i ≤ 3) (dl : due.length ≤ 6) :
    ∀ x ∈ [PyData.tuple [], PyData.none, PyData.list [], PyData.tuple [PyData.none], PyData.int 0, PyData.str (Str.ofString "a"), PyData.tuple [PyData.tuple [PyData.str (Str.ofString "a"), PyData.int 0]], PyData.tuple (due ++ [PyData.none]), PyData.tuple (cutL due (some 1) none), PyData.list due, PyData.tuple [PyData.int m, PyData.tuple (List.map PyData.str seen), PyData.tuple parts]], Thing x := by
  have st : ∀ es : List PyData, (∀ x ∈ es, x = .none ∨ ∃ i, x = .int i ∧ 0 ≤ i ∧ i ≤ 3) → es.length ≤ 36 → Thing (.tuple es) := fun es h hl => by
    obtain ⟨a, b, c⟩ := stand_lf h hl
    exact thing_of a (by decide) (by decide) b (by decide) c (by decide)
  intro x hx
  (simp only [List.mem_cons, List.not_mem_nil, or_false] at hx)
  rcases hx with rfl | rfl | rfl | rfl | rfl | rfl | rfl | rfl | rfl | rfl | rfl
  · exact st [] (fun x h => by cases h) (by simp)
  · exact ⟨nice_none.mono (by decide) (by decide), nofun⟩
  · exact ⟨(Nices.nil (D := 1)).lst.mono (by decide) (by decide), nofun⟩
  · exact st [.none] (fun x h => .inl (by simpa using h)) (by simp)
  · exact ⟨(nice_small (by omega) (by omega)).mono (by decide) (by decide), nofun⟩
  · exact ⟨(nice_str str_a).mono (by decide) (by decide), nofun⟩
  · obtain ⟨a, b, c⟩ := moment_lf (ps := [.tuple [.str (Str.ofString "a"), .int 0]]) (fun p h => ⟨Str.ofString "a", 0, by simpa using h, str_a, by omega, by omega⟩) (by simp)
    exact thing_of a (by decide) (by decide) b (by decide) c (by decide)
  · refine st _ (fun x h => ?_) (by simp; omega)
    rcases List.mem_append.mp h with z | z
    · exact dv x z
    · exact .inl (by simpa using z)
  · rw [show (some (1 : Int)) = some ((1 : Nat) : Int) from rfl, cut_fromA]
    exact st _ (fun x h => dv x (List.mem_of_mem_drop h)) (by rw [List.length_drop]; omega)
  · obtain ⟨a, b, c⟩ := stand_lf dv (by omega)
    have h : Nice 1000 3 (.tuple due) := a.nice (by decide) b c
    exact ⟨h.tup_inv.1.lst.mono (by decide) (by decide), nofun⟩
  · refine ⟨N.nice.mono (by decide) (by decide), fun ds e => ?_⟩
    cases e
    simp
theorem round_ok {n c : Nat} {scr : D} (hc : c ≤ 100000) {d : D} {r : List D} {ρ : En} {s : S} (J : OuJ n c scr (d :: r) ρ s) :
    ∃ ρ1, setD (.nm 2) d ρ = some ρ1 ∧ (LB1 ρ1 s).W fun fl s' => ∃ ρ', fl = .nx ρ' ∧ OuJ n c scr r ρ' s' := by
  obtain ⟨x2, x3, x4, x5, x6, x7, x8, x9, x10, x11, rfl, c', fd, hcc⟩ := J.ex
  rw [List.length_cons] at hcc
  refine ⟨_, l_nm2, ?_⟩
  unfold LB1
  walk_at "go"
  refine R.W_mono (draw_ok fd (by decide) (by decide) (by omega)) ?_
  rintro _ s1 ⟨i, rfl, i0, i1, fd1, sm1⟩
  obtain ⟨k, hk⟩ : ∃ k : Nat, 2 + i = (k : Int) := ⟨(2 + i).toNat, by omega⟩
  walk_at "go"
  rw [hk]
  refine R.W_mono (ports_ok fd1 (by omega) (by omega)) ?_
  rintro _ s2 ⟨ps, rfl, pl, nd, ok, fd2, sm2⟩
  walk_at "go"
  refine R.W_mono (flat_ok fd2 (by omega) (by omega) nd ok (by omega)) ?_
  rintro _ s3 ⟨net, m, seen, parts, rfl, N, fd3, sm3⟩
  have hE := N.eq
  subst hE
  have pl6 := N.pl
  walk_at "go"
  rw [e_lc1 (ρ0 := [none]) (by rw [List.length_map]; omega) rfl, due_ok N.pd]
  have dl : ((parts.filter isHold).map heldOf).length ≤ 6 := by
    rw [List.length_map]
    exact Nat.le_trans (List.length_filter_le _ _) pl6
  have dv := due_lf N.pd N.m3
  generalize hdue : (parts.filter isHold).map heldOf = due at *
  obtain ⟨dlf, dbk, ddp⟩ := stand_lf dv (by omega)
  have oks : okS (.tuple due) = true := (dlf.nice (B := 1000) (D := 3) (by decide) dbk ddp).okS (by decide) (by decide)
  walk_at "go"
  rw [v_first N.pd (by omega), hdue]
  walk_at "go"
  rw [repr_da oks]
  walk_at "go"
  rw [repr_da oks]
  walk_at "go"
  rw [gNe_s, decide_eq_true rfl]
  walk_at "go"
  rw [gAdd_tup (by simp; omega)]
  walk_at "go"
  rw [rng_ok (by decide) (by decide)]
  walk_at "go"
  have nx : ∀ {J : En → S → Prop} {Q : Fl → S → Prop} {o : R Fl}, (o.W fun fl s' => ∃ ρ', fl = .nx ρ' ∧ J ρ' s') → o.W (flW J Q) := fun h => R.W_mono h fun fl s' q => by
    obtain ⟨ρ', rfl, h⟩ := q
    exact h
  refine loop_inv (ThJ n (c' + 103 + 2400) scr (.tup [.int m, .tuple (seen.map PyData.str), .tuple parts]) due) ?_ ?_ _ _ _ ⟨_, _, _, _, _, _, _, _, rfl, first_things N dv dl, by rw [rng_len]; show 11 + 5 * 6 ≤ 41; decide, _, fd3, by rw [rng_len]; show _ + 400 * 6 ≤ _; omega⟩
  · intro d r ρ s J
    obtain ⟨ρ1, e1, w1⟩ := turn_ok N dl (by omega) J
    exact ⟨ρ1, e1, nx w1⟩
  · rintro ρ s4 ⟨xs, x2, x6, x7, x8, x9, x10, x11, rfl, hxs, hl, c4, fd4, hc4⟩
    walk_at "go"
    refine loop_inv (RiJ n c4 scr (.da (.tuple [.int m, .tuple (seen.map PyData.str), .tuple parts]))) ?_ ?_ _ _ _ ⟨xs, _, _, _, _, _, _, _, _, _, rfl, rfl, hxs, fd4⟩
    · intro d r ρ s J
      obtain ⟨ρ1, e1, w1⟩ := right_ok N J
      exact ⟨ρ1, e1, nx w1⟩
    · rintro ρ s5 ⟨l, x2, x4, x5, x6, x7, x8, x9, x10, x11, _, rfl, _, fd5⟩
      exact ⟨_, rfl, _, _, _, _, _, _, _, _, _, _, rfl, c4, fd5, by simp only [List.length_nil] at hc4; omega⟩
theorem law_true (ns : List Int) : (Flaw [.frz (ns.map PyData.int)] []).W fun d _ => d = .bl true := by
  rw [elaw, Blaw_eq]
  walk_at "go"
  rw [e_law_feed]; unfold B_law_feed
  walk_at "go"
  rw [rng_ok (by decide) (by decide)]
  walk_at "go"
  have f0 : Fd [O.lst [D.lst (cutL (List.map PyData.int ns) none (some 63)), D.da (PyData.int 0), D.da (PyData.int 0), D.da (PyData.int 0)]] 0 0 := by
    rw [cutL_map, show (some (63 : Int)) = some ((63 : Nat) : Int) from rfl, cut_to]
    exact ⟨ns.take 63, 0, 0, 0, rfl, by rw [List.length_take]; omega, by omega, by omega, by omega⟩
  refine loop_inv (OuJ 0 12000 (.frz (ns.map PyData.int))) ?_ ?_ _ _ _ ⟨_, _, _, _, _, _, _, _, _, _, rfl, 0, f0, by rw [rng_len]; decide⟩
  · intro d r ρ s J
    obtain ⟨ρ1, e1, w1⟩ := round_ok (by decide) J
    exact ⟨ρ1, e1, R.W_mono w1 fun fl s' q => by
      obtain ⟨ρ', rfl, h⟩ := q
      exact h⟩
  · rintro ρ s5 ⟨x2, x3, x4, x5, x6, x7, x8, x9, x10, x11, rfl, _⟩
    walk_at "go"
    try rfl
end Ln
namespace Ln
open PySem L2 PF
section
variable {P : Program} {w : World} {K : PySem.W.Frag} {mg : Str → Option Value} {base : Heap}
theorem fnlaw {f : Addr} {fd : FuncData} (F : Fun K "law" "law" s_law f fd) (T : Txt0 K mg) : FnOk P w K mg base CX0 15 f fd ["_law_script"] (spF K 1 Flaw) := by
  have cfirst_stand := okfirst_stand (P := P) (w := w) (base := base) T
  have c_law_feed := ok_law_feed (P := P) (w := w) (base := base) T
  have c_law_draw := ok_law_draw (P := P) (w := w) (base := base) T
  have c_law_ports := ok_law_ports (P := P) (w := w) (base := base) T
  have c_law_flat := ok_law_flat (P := P) (w := w) (base := base) T
  have c_law_bent := ok_law_bent (P := P) (w := w) (base := base) T 12
  have c_law_names := ok_law_names (P := P) (w := w) (base := base) T
  have c_law_right := ok_law_right (P := P) (w := w) (base := base) T
  exact fnF (k := 14) F sclaw rfl rfl (fun f cdv A outer s H E hr =>
      (rss_cons (rs_set (i := 1) sclaw.nd rfl (Or.inr rfl) (re_c c_law_feed (hr.mono (by decide)) (ra_cons (re_var 0) ra_nil)))
      (rss_cons (rs_for rfl (ri_rng T.n_range (ra_cons re_int ra_nil)) (rg_name (i := 2) sclaw.nd rfl (Or.inl rfl)) (rss_cons (rs_set (i := 3) sclaw.nd rfl (Or.inr rfl) (re_c c_law_flat (hr.mono (by decide)) (ra_cons (re_var 1) (ra_cons (re_c c_law_ports (hr.mono (by decide)) (ra_cons (re_var 1) (ra_cons (re_op (o_add false) re_int (re_c c_law_draw (hr.mono (by decide)) (ra_cons (re_var 1) (ra_cons re_int ra_nil)))) ra_nil))) (ra_cons re_int ra_nil)))))
      (rss_cons (rs_set (i := 4) sclaw.nd rfl (Or.inl rfl) (re_ct c_tuple T.n_tuple b_tuple (ra_cons (re_lc false (own := ["_law_part_here"]) (caps := []) (js := []) rfl rfl rfl rfl rfl (trivial) rfl (ri_any (re_ix (re_var 3) re_int)) (fun _ _ _ _ => (rg_name (i := 0) (show (["_law_part_here"] : List Str).Nodup by decide +kernel) rfl (Or.inl rfl) (Or.inr rfl))) (fun _ _ _ _ => (rifs_one (rt_cmp (o_in (u65 hr)) (re_ix (re_var 0) re_int) (re_tup (ra_consts rfl))))) (fun _ _ _ _ => (re_ix (re_var 0) re_int))) ra_nil)))
      (rss_cons (rs_if (rt_cmp (o_ne (u64 hr)) (re_cb (c_repr hr) T.n_repr b_repr (ra_cons (re_c cfirst_stand (hr.mono (by decide)) (ra_cons (re_var 3) ra_nil)) ra_nil)) (re_cb (c_repr hr) T.n_repr b_repr (ra_cons (re_var 4) ra_nil))) (rss_one (rs_ret re_bl)) rss_nil)
      (rss_cons (rs_set (i := 5) sclaw.nd rfl (Or.inl rfl) (re_lst false (ra_cons (re_tup ra_nil) (ra_cons re_non (ra_cons (re_lst false ra_nil) (ra_cons (re_tup (ra_cons re_non ra_nil)) (ra_cons re_int (ra_cons re_str (ra_cons (re_tup (ra_cons (re_tup (ra_consts rfl)) ra_nil)) (ra_cons (re_op (o_add false) (re_var 4) (re_tup (ra_cons re_non ra_nil))) (ra_cons (re_slice false (re_var 4) (ro_some re_int) ro_none) (ra_cons (re_ct (c_list false) T.n_list b_list (ra_cons (re_var 4) ra_nil)) (ra_cons (re_var 3) ra_nil)))))))))))))
      (rss_cons (rs_for rfl (ri_rng T.n_range (ra_cons re_int ra_nil)) (rg_name (i := 6) sclaw.nd rfl (Or.inl rfl)) (rss_cons (rs_setLc false (own := ["_law_name"]) (caps := ["_law_feed_here"]) (js := [1]) (i := 7) rfl sclaw.nd rfl rfl rfl rfl rfl rfl rfl (⟨⟨rfl, Or.inr (Or.inl rfl), rfl, rfl⟩, trivial⟩) rfl (ri_any (re_c c_law_names (hr.mono (by decide)) (ra_cons (re_var 3) ra_nil))) (fun _ _ _ _ => (rg_name (i := 0) (show (["_law_name", "_law_feed_here"] : List Str).Nodup by decide +kernel) rfl (Or.inl rfl) (Or.inr rfl))) (fun _ _ _ _ => (rifs_one (rt_cmp (o_eq (u64 hr)) (re_c c_law_draw (hr.mono (by decide)) (ra_cons (re_var 1) (ra_cons re_int ra_nil))) re_int))) (fun _ _ _ _ => (re_var 0)))
      (rss_cons (rs_set (i := 8) sclaw.nd rfl (Or.inl rfl) (re_ct c_tuple T.n_tuple b_tuple (ra_cons (re_lc false (own := ["_law_name"]) (caps := ["_law_feed_here", "_law_net"]) (js := [1, 3]) rfl rfl rfl rfl rfl (⟨⟨rfl, Or.inr (Or.inl rfl), rfl, rfl⟩, ⟨⟨rfl, Or.inr (Or.inl rfl), rfl, rfl⟩, trivial⟩⟩) rfl (ri_any (re_var 7)) (fun _ _ _ _ => (rg_name (i := 0) (show (["_law_name", "_law_feed_here", "_law_net"] : List Str).Nodup by decide +kernel) rfl (Or.inl rfl) (Or.inr rfl))) (fun _ _ _ _ => rifs_nil) (fun _ _ _ _ => (re_tup (ra_cons (re_var 0) (ra_cons (re_c c_law_draw (hr.mono (by decide)) (ra_cons (re_var 1) (ra_cons (re_ix (re_var 2) re_int) ra_nil))) ra_nil))))) ra_nil)))
      (rss_cons (rs_set (i := 9) sclaw.nd rfl (Or.inl rfl) (re_c c_law_bent (hr.mono (by decide)) (ra_cons (re_var 1) (ra_cons (re_var 8) ra_nil))))
      (rss_cons (rs_set (i := 10) sclaw.nd rfl (Or.inl rfl) (re_ct c_tuple T.n_tuple b_tuple (ra_cons (re_lc false (own := ["_law_one"]) (caps := ["_law_feed_here", "_law_net"]) (js := [1, 3]) rfl rfl rfl rfl rfl (⟨⟨rfl, Or.inr (Or.inl rfl), rfl, rfl⟩, ⟨⟨rfl, Or.inr (Or.inl rfl), rfl, rfl⟩, trivial⟩⟩) rfl (ri_any (re_var 4)) (fun _ _ _ _ => (rg_name (i := 0) (show (["_law_one", "_law_feed_here", "_law_net"] : List Str).Nodup by decide +kernel) rfl (Or.inl rfl) (Or.inr rfl))) (fun _ _ _ _ => rifs_nil) (fun _ _ _ _ => (re_ix (re_lst false (ra_cons re_non (ra_cons re_int (ra_cons (re_op o_sub (re_ix (re_var 2) re_int) re_int) ra_nil)))) (re_c c_law_draw (hr.mono (by decide)) (ra_cons (re_var 1) (ra_cons re_int ra_nil)))))) ra_nil)))
      (rss_one (rs_set (i := 5) sclaw.nd rfl (Or.inl rfl) (re_op (o_add false) (re_var 5) (re_lst false (ra_cons (re_var 8) (ra_cons (re_var 9) (ra_cons (re_c c_law_bent (hr.mono (by decide)) (ra_cons (re_var 1) (ra_cons (re_var 9) ra_nil))) (ra_cons (re_var 10) (ra_cons (re_c c_law_bent (hr.mono (by decide)) (ra_cons (re_var 1) (ra_cons (re_var 10) ra_nil))) ra_nil))))))))))))))
      (rss_one (rs_for rfl (ri_any (re_var 5)) (rg_name (i := 11) sclaw.nd rfl (Or.inl rfl)) (rss_one (rs_if (rt_not (rt_tru (re_c c_law_right (hr.mono (by decide)) (ra_cons (re_var 3) (ra_cons (re_var 11) ra_nil))))) (rss_one (rs_ret re_bl)) rss_nil))))))))))
      (rss_one (rs_ret re_bl)))))
end
end Ln
namespace Ln
open PySem L2 PF
theorem has_mk {K : PySem.W.Frag} {h : Heap} {mg : Str → Option Value} (X : K.In h) (G : h.Ns mainGlobals mg) {x : Str} {st : Stmt} {ps : List Str} {f : Addr} {od an : Option Addr} {sl : Array (Option Value)} {oc kV dc pm cd ct : Value}
    (a : PySem.W.nsIn K mainGlobals x = some (some (.ref f))) (l : K.lookup f = some ⟨oc, od, .func (PySem.W.fnOf x x (defArgs st) (defBody st) (defScope st) .none kV dc pm an cd ct), sl⟩) (c : PySem.W.codeIn K cd x = true) (k : PySem.W.keepIn K (.ref f) = true)
    (b : ∀ (kV doc pm : Value) (an : Option Addr) (cdv ct : Value) (us : List Value), us.length = ps.length → bindArgs (PySem.W.fnOf x x (defArgs st) (defBody st) (defScope st) .none kV doc pm an cdv ct) ⟨us, []⟩ = pure (ps.zip us)) : Has K mg x st ps :=
  ⟨f, _, fun_mk (st := st) l c k, PySem.W.mg_of X G a, (fun_mk (st := st) l c k).binds b⟩
theorem con_mk {K : PySem.W.Frag} {h : Heap} {mg : Str → Option Value} (X : K.In h) (G : h.Ns mainGlobals mg) {x : Str} {vs : List V} {g : Addr} {od : Option Addr} {its : Array Value} {n : Nat} {sl : Array (Option Value)}
    (a : PySem.W.nsIn K mainGlobals x = some (some (.ref g))) (l : K.lookup g = some ⟨.type "tuple", od, .seq its n, sl⟩) (hz : its.size ≤ 1000) (hv : Vals vs its.toList) : ConT K mg x vs :=
  ⟨g, PySem.W.mg_of X G a, fun H => .inr ⟨_, its, n, l, rfl, rfl, Nat.le_of_lt (small1000 hz), hv⟩⟩
theorem all_mk {l : PySem.W.OpenLaw} {w : World} {K : PySem.W.Frag} {h : Heap} {mg : Str → Option Value} {fa f0 f1 f2 f3 f4 f5 f6 f7 f8 f9 f10 f11 f12 f13 f14 f15 f16 f17 f18 f19 f20 f21 f22 f23 f24 g0 : Addr} {od0 an0 od1 an1 od2 an2 od3 an3 od4 an4 od5 an5 od6 an6 od7 an7 od8 an8 od9 an9 od10 an10 od11 an11 od12 an12 od13 an13 od14 an14 od15 an15 od16 an16 od17 an17 od18 an18 od19 an19 od20 an20 od21 an21 od22 an22 od23 an23 od24 an24 gd0 : Option Addr} {sl0 sl1 sl2 sl3 sl4 sl5 sl6 sl7 sl8 sl9 sl10 sl11 sl12 sl13 sl14 sl15 sl16 sl17 sl18 sl19 sl20 sl21 sl22 sl23 sl24 gs0 : Array (Option Value)} {oc0 kV0 dc0 pm0 cd0 ct0 oc1 kV1 dc1 pm1 cd1 ct1 oc2 kV2 dc2 pm2 cd2 ct2 oc3 kV3 dc3 pm3 cd3 ct3 oc4 kV4 dc4 pm4 cd4 ct4 oc5 kV5 dc5 pm5 cd5 ct5 oc6 kV6 dc6 pm6 cd6 ct6 oc7 kV7 dc7 pm7 cd7 ct7 oc8 kV8 dc8 pm8 cd8 ct8 oc9 kV9 dc9 pm9 cd9 ct9 oc10 kV10 dc10 pm10 cd10 ct10 oc11 kV11 dc11 pm11 cd11 ct11 oc12 kV12 dc12 pm12 cd12 ct12 oc13 kV13 dc13 pm13 cd13 ct13 oc14 kV14 dc14 pm14 cd14 ct14 oc15 kV15 dc15 pm15 cd15 ct15 oc16 kV16 dc16 pm16 cd16 ct16 oc17 kV17 dc17 pm17 cd17 ct17 oc18 kV18 dc18 pm18 cd18 ct18 oc19 kV19 dc19 pm19 cd19 ct19 oc20 kV20 dc20 pm20 cd20 ct20 oc21 kV21 dc21 pm21 cd21 ct21 oc22 kV22 dc22 pm22 cd22 ct22 oc23 kV23 dc23 pm23 cd23 ct23 oc24 kV24 dc24 pm24 cd24 ct24 : Value} {gn0 : Nat} {gi0 : Array Value} (X : K.In h) (G : h.Ns mainGlobals mg) (hfa : mg "law" = some (.ref fa))
    (a0 : PySem.W.nsIn K mainGlobals "is_whole" = some (some (.ref f0))) (l0 : K.lookup f0 = some ⟨oc0, od0, .func (PySem.W.fnOf "is_whole" "is_whole" (defArgs s_is_whole) (defBody s_is_whole) (defScope s_is_whole) .none kV0 dc0 pm0 an0 cd0 ct0), sl0⟩) (c0 : PySem.W.codeIn K cd0 "is_whole" = true) (k0 : PySem.W.keepIn K (.ref f0) = true)
    (a1 : PySem.W.nsIn K mainGlobals "is_below" = some (some (.ref f1))) (l1 : K.lookup f1 = some ⟨oc1, od1, .func (PySem.W.fnOf "is_below" "is_below" (defArgs s_is_below) (defBody s_is_below) (defScope s_is_below) .none kV1 dc1 pm1 an1 cd1 ct1), sl1⟩) (c1 : PySem.W.codeIn K cd1 "is_below" = true) (k1 : PySem.W.keepIn K (.ref f1) = true)
    (a2 : PySem.W.nsIn K mainGlobals "ports_of" = some (some (.ref f2))) (l2 : K.lookup f2 = some ⟨oc2, od2, .func (PySem.W.fnOf "ports_of" "ports_of" (defArgs s_ports_of) (defBody s_ports_of) (defScope s_ports_of) .none kV2 dc2 pm2 an2 cd2 ct2), sl2⟩) (c2 : PySem.W.codeIn K cd2 "ports_of" = true) (k2 : PySem.W.keepIn K (.ref f2) = true)
    (a3 : PySem.W.nsIn K mainGlobals "ports_in" = some (some (.ref f3))) (l3 : K.lookup f3 = some ⟨oc3, od3, .func (PySem.W.fnOf "ports_in" "ports_in" (defArgs s_ports_in) (defBody s_ports_in) (defScope s_ports_in) .none kV3 dc3 pm3 an3 cd3 ct3), sl3⟩) (c3 : PySem.W.codeIn K cd3 "ports_in" = true) (k3 : PySem.W.keepIn K (.ref f3) = true)
    (a4 : PySem.W.nsIn K mainGlobals "is_thing" = some (some (.ref f4))) (l4 : K.lookup f4 = some ⟨oc4, od4, .func (PySem.W.fnOf "is_thing" "is_thing" (defArgs s_is_thing) (defBody s_is_thing) (defScope s_is_thing) .none kV4 dc4 pm4 an4 cd4 ct4), sl4⟩) (c4 : PySem.W.codeIn K cd4 "is_thing" = true) (k4 : PySem.W.keepIn K (.ref f4) = true)
    (a5 : PySem.W.nsIn K mainGlobals "is_held" = some (some (.ref f5))) (l5 : K.lookup f5 = some ⟨oc5, od5, .func (PySem.W.fnOf "is_held" "is_held" (defArgs s_is_held) (defBody s_is_held) (defScope s_is_held) .none kV5 dc5 pm5 an5 cd5 ct5), sl5⟩) (c5 : PySem.W.codeIn K cd5 "is_held" = true) (k5 : PySem.W.keepIn K (.ref f5) = true)
    (a6 : PySem.W.nsIn K mainGlobals "first_stand" = some (some (.ref f6))) (l6 : K.lookup f6 = some ⟨oc6, od6, .func (PySem.W.fnOf "first_stand" "first_stand" (defArgs s_first_stand) (defBody s_first_stand) (defScope s_first_stand) .none kV6 dc6 pm6 an6 cd6 ct6), sl6⟩) (c6 : PySem.W.codeIn K cd6 "first_stand" = true) (k6 : PySem.W.keepIn K (.ref f6) = true)
    (a7 : PySem.W.nsIn K mainGlobals "is_stand" = some (some (.ref f7))) (l7 : K.lookup f7 = some ⟨oc7, od7, .func (PySem.W.fnOf "is_stand" "is_stand" (defArgs s_is_stand) (defBody s_is_stand) (defScope s_is_stand) .none kV7 dc7 pm7 an7 cd7 ct7), sl7⟩) (c7 : PySem.W.codeIn K cd7 "is_stand" = true) (k7 : PySem.W.keepIn K (.ref f7) = true)
    (a8 : PySem.W.nsIn K mainGlobals "is_moment" = some (some (.ref f8))) (l8 : K.lookup f8 = some ⟨oc8, od8, .func (PySem.W.fnOf "is_moment" "is_moment" (defArgs s_is_moment) (defBody s_is_moment) (defScope s_is_moment) .none kV8 dc8 pm8 an8 cd8 ct8), sl8⟩) (c8 : PySem.W.codeIn K cd8 "is_moment" = true) (k8 : PySem.W.keepIn K (.ref f8) = true)
    (a9 : PySem.W.nsIn K mainGlobals "holding_parts" = some (some (.ref f9))) (l9 : K.lookup f9 = some ⟨oc9, od9, .func (PySem.W.fnOf "holding_parts" "holding_parts" (defArgs s_holding_parts) (defBody s_holding_parts) (defScope s_holding_parts) .none kV9 dc9 pm9 an9 cd9 ct9), sl9⟩) (c9 : PySem.W.codeIn K cd9 "holding_parts" = true) (k9 : PySem.W.keepIn K (.ref f9) = true)
    (a10 : PySem.W.nsIn K mainGlobals "is_moment_of" = some (some (.ref f10))) (l10 : K.lookup f10 = some ⟨oc10, od10, .func (PySem.W.fnOf "is_moment_of" "is_moment_of" (defArgs s_is_moment_of) (defBody s_is_moment_of) (defScope s_is_moment_of) .none kV10 dc10 pm10 an10 cd10 ct10), sl10⟩) (c10 : PySem.W.codeIn K cd10 "is_moment_of" = true) (k10 : PySem.W.keepIn K (.ref f10) = true)
    (a11 : PySem.W.nsIn K mainGlobals "is_passing" = some (some (.ref f11))) (l11 : K.lookup f11 = some ⟨oc11, od11, .func (PySem.W.fnOf "is_passing" "is_passing" (defArgs s_is_passing) (defBody s_is_passing) (defScope s_is_passing) .none kV11 dc11 pm11 an11 cd11 ct11), sl11⟩) (c11 : PySem.W.codeIn K cd11 "is_passing" = true) (k11 : PySem.W.keepIn K (.ref f11) = true)
    (a12 : PySem.W.nsIn K mainGlobals "_law_feed" = some (some (.ref f12))) (l12 : K.lookup f12 = some ⟨oc12, od12, .func (PySem.W.fnOf "_law_feed" "_law_feed" (defArgs s__law_feed) (defBody s__law_feed) (defScope s__law_feed) .none kV12 dc12 pm12 an12 cd12 ct12), sl12⟩) (c12 : PySem.W.codeIn K cd12 "_law_feed" = true) (k12 : PySem.W.keepIn K (.ref f12) = true)
    (a13 : PySem.W.nsIn K mainGlobals "_law_draw" = some (some (.ref f13))) (l13 : K.lookup f13 = some ⟨oc13, od13, .func (PySem.W.fnOf "_law_draw" "_law_draw" (defArgs s__law_draw) (defBody s__law_draw) (defScope s__law_draw) .none kV13 dc13 pm13 an13 cd13 ct13), sl13⟩) (c13 : PySem.W.codeIn K cd13 "_law_draw" = true) (k13 : PySem.W.keepIn K (.ref f13) = true)
    (a14 : PySem.W.nsIn K mainGlobals "_law_shuffled" = some (some (.ref f14))) (l14 : K.lookup f14 = some ⟨oc14, od14, .func (PySem.W.fnOf "_law_shuffled" "_law_shuffled" (defArgs s__law_shuffled) (defBody s__law_shuffled) (defScope s__law_shuffled) .none kV14 dc14 pm14 an14 cd14 ct14), sl14⟩) (c14 : PySem.W.codeIn K cd14 "_law_shuffled" = true) (k14 : PySem.W.keepIn K (.ref f14) = true)
    (a15 : PySem.W.nsIn K mainGlobals "_law_ports" = some (some (.ref f15))) (l15 : K.lookup f15 = some ⟨oc15, od15, .func (PySem.W.fnOf "_law_ports" "_law_ports" (defArgs s__law_ports) (defBody s__law_ports) (defScope s__law_ports) .none kV15 dc15 pm15 an15 cd15 ct15), sl15⟩) (c15 : PySem.W.codeIn K cd15 "_law_ports" = true) (k15 : PySem.W.keepIn K (.ref f15) = true)
    (a16 : PySem.W.nsIn K mainGlobals "_law_part" = some (some (.ref f16))) (l16 : K.lookup f16 = some ⟨oc16, od16, .func (PySem.W.fnOf "_law_part" "_law_part" (defArgs s__law_part) (defBody s__law_part) (defScope s__law_part) .none kV16 dc16 pm16 an16 cd16 ct16), sl16⟩) (c16 : PySem.W.codeIn K cd16 "_law_part" = true) (k16 : PySem.W.keepIn K (.ref f16) = true)
    (a17 : PySem.W.nsIn K mainGlobals "_law_flat" = some (some (.ref f17))) (l17 : K.lookup f17 = some ⟨oc17, od17, .func (PySem.W.fnOf "_law_flat" "_law_flat" (defArgs s__law_flat) (defBody s__law_flat) (defScope s__law_flat) .none kV17 dc17 pm17 an17 cd17 ct17), sl17⟩) (c17 : PySem.W.codeIn K cd17 "_law_flat" = true) (k17 : PySem.W.keepIn K (.ref f17) = true)
    (a18 : PySem.W.nsIn K mainGlobals "_law_bent" = some (some (.ref f18))) (l18 : K.lookup f18 = some ⟨oc18, od18, .func (PySem.W.fnOf "_law_bent" "_law_bent" (defArgs s__law_bent) (defBody s__law_bent) (defScope s__law_bent) .none kV18 dc18 pm18 an18 cd18 ct18), sl18⟩) (c18 : PySem.W.codeIn K cd18 "_law_bent" = true) (k18 : PySem.W.keepIn K (.ref f18) = true)
    (a19 : PySem.W.nsIn K mainGlobals "_law_names" = some (some (.ref f19))) (l19 : K.lookup f19 = some ⟨oc19, od19, .func (PySem.W.fnOf "_law_names" "_law_names" (defArgs s__law_names) (defBody s__law_names) (defScope s__law_names) .none kV19 dc19 pm19 an19 cd19 ct19), sl19⟩) (c19 : PySem.W.codeIn K cd19 "_law_names" = true) (k19 : PySem.W.keepIn K (.ref f19) = true)
    (a20 : PySem.W.nsIn K mainGlobals "_law_is_thing" = some (some (.ref f20))) (l20 : K.lookup f20 = some ⟨oc20, od20, .func (PySem.W.fnOf "_law_is_thing" "_law_is_thing" (defArgs s__law_is_thing) (defBody s__law_is_thing) (defScope s__law_is_thing) .none kV20 dc20 pm20 an20 cd20 ct20), sl20⟩) (c20 : PySem.W.codeIn K cd20 "_law_is_thing" = true) (k20 : PySem.W.keepIn K (.ref f20) = true)
    (a21 : PySem.W.nsIn K mainGlobals "_law_is_stand" = some (some (.ref f21))) (l21 : K.lookup f21 = some ⟨oc21, od21, .func (PySem.W.fnOf "_law_is_stand" "_law_is_stand" (defArgs s__law_is_stand) (defBody s__law_is_stand) (defScope s__law_is_stand) .none kV21 dc21 pm21 an21 cd21 ct21), sl21⟩) (c21 : PySem.W.codeIn K cd21 "_law_is_stand" = true) (k21 : PySem.W.keepIn K (.ref f21) = true)
    (a22 : PySem.W.nsIn K mainGlobals "_law_is_moment" = some (some (.ref f22))) (l22 : K.lookup f22 = some ⟨oc22, od22, .func (PySem.W.fnOf "_law_is_moment" "_law_is_moment" (defArgs s__law_is_moment) (defBody s__law_is_moment) (defScope s__law_is_moment) .none kV22 dc22 pm22 an22 cd22 ct22), sl22⟩) (c22 : PySem.W.codeIn K cd22 "_law_is_moment" = true) (k22 : PySem.W.keepIn K (.ref f22) = true)
    (a23 : PySem.W.nsIn K mainGlobals "_law_right" = some (some (.ref f23))) (l23 : K.lookup f23 = some ⟨oc23, od23, .func (PySem.W.fnOf "_law_right" "_law_right" (defArgs s__law_right) (defBody s__law_right) (defScope s__law_right) .none kV23 dc23 pm23 an23 cd23 ct23), sl23⟩) (c23 : PySem.W.codeIn K cd23 "_law_right" = true) (k23 : PySem.W.keepIn K (.ref f23) = true)
    (a24 : PySem.W.nsIn K mainGlobals "law" = some (some (.ref f24))) (l24 : K.lookup f24 = some ⟨oc24, od24, .func (PySem.W.fnOf "law" "law" (defArgs s_law) (defBody s_law) (defScope s_law) .none kV24 dc24 pm24 an24 cd24 ct24), sl24⟩) (c24 : PySem.W.codeIn K cd24 "law" = true) (k24 : PySem.W.keepIn K (.ref f24) = true)
    (p0 : PySem.W.nsIn K mainGlobals "HOLDING" = some (some (.ref g0))) (q0 : K.lookup g0 = some ⟨.type "tuple", gd0, .seq gi0 gn0, gs0⟩) (r0 : gi0.size ≤ 1000) (v0 : Vals [.str "place", .str "last"] gi0.toList)
    (z0 : PySem.W.nsIn K mainGlobals "len" = some none)
    (z1 : PySem.W.nsIn K mainGlobals "min" = some none)
    (z2 : PySem.W.nsIn K mainGlobals "repr" = some none)
    (z3 : PySem.W.nsIn K mainGlobals "sorted" = some none)
    (z4 : PySem.W.nsIn K mainGlobals "list" = some none)
    (z5 : PySem.W.nsIn K mainGlobals "tuple" = some none)
    (z6 : PySem.W.nsIn K mainGlobals "set" = some none)
    (z7 : PySem.W.nsIn K mainGlobals "range" = some none)
    (z8 : PySem.W.nsIn K mainGlobals "isinstance" = some none)
    (z9 : PySem.W.nsIn K mainGlobals "str" = some none)
    (z10 : PySem.W.nsIn K mainGlobals "int" = some none)
    (z11 : PySem.W.nsIn K mainGlobals "bool" = some none)
    (z12 : PySem.W.nsIn K mainGlobals "all" = some none) :
    ∃ fd : FuncData, (∀ (s : Shared) (v : Value), BindsTo s fd ⟨[v], []⟩ [("_law_script", v)]) ∧ ∀ base : Heap, K.In base → base.Ns mainGlobals mg → FnOk l.prog w K mg base CX0 15 fa fd ["_law_script"] (spLaw K) := by
  have e := hfa.symm.trans (PySem.W.mg_of X G a24)
  cases e
  have T : Txt0 K mg := ⟨has_mk X G a0 l0 c0 k0 (fun _ _ _ _ _ _ us hl => match us, hl with | [_], _ => rfl),
    has_mk X G a1 l1 c1 k1 (fun _ _ _ _ _ _ us hl => match us, hl with | [_, _], _ => rfl),
    has_mk X G a2 l2 c2 k2 (fun _ _ _ _ _ _ us hl => match us, hl with | [_], _ => rfl),
    has_mk X G a3 l3 c3 k3 (fun _ _ _ _ _ _ us hl => match us, hl with | [_], _ => rfl),
    has_mk X G a4 l4 c4 k4 (fun _ _ _ _ _ _ us hl => match us, hl with | [_, _], _ => rfl),
    has_mk X G a5 l5 c5 k5 (fun _ _ _ _ _ _ us hl => match us, hl with | [_, _], _ => rfl),
    has_mk X G a6 l6 c6 k6 (fun _ _ _ _ _ _ us hl => match us, hl with | [_], _ => rfl),
    has_mk X G a7 l7 c7 k7 (fun _ _ _ _ _ _ us hl => match us, hl with | [_, _], _ => rfl),
    has_mk X G a8 l8 c8 k8 (fun _ _ _ _ _ _ us hl => match us, hl with | [_, _], _ => rfl),
    has_mk X G a9 l9 c9 k9 (fun _ _ _ _ _ _ us hl => match us, hl with | [_], _ => rfl),
    has_mk X G a10 l10 c10 k10 (fun _ _ _ _ _ _ us hl => match us, hl with | [_, _, _], _ => rfl),
    has_mk X G a11 l11 c11 k11 (fun _ _ _ _ _ _ us hl => match us, hl with | [_, _, _], _ => rfl),
    has_mk X G a12 l12 c12 k12 (fun _ _ _ _ _ _ us hl => match us, hl with | [_], _ => rfl),
    has_mk X G a13 l13 c13 k13 (fun _ _ _ _ _ _ us hl => match us, hl with | [_, _], _ => rfl),
    has_mk X G a14 l14 c14 k14 (fun _ _ _ _ _ _ us hl => match us, hl with | [_, _], _ => rfl),
    has_mk X G a15 l15 c15 k15 (fun _ _ _ _ _ _ us hl => match us, hl with | [_, _], _ => rfl),
    has_mk X G a16 l16 c16 k16 (fun _ _ _ _ _ _ us hl => match us, hl with | [_, _, _], _ => rfl),
    has_mk X G a17 l17 c17 k17 (fun _ _ _ _ _ _ us hl => match us, hl with | [_, _, _], _ => rfl),
    has_mk X G a18 l18 c18 k18 (fun _ _ _ _ _ _ us hl => match us, hl with | [_, _], _ => rfl),
    has_mk X G a19 l19 c19 k19 (fun _ _ _ _ _ _ us hl => match us, hl with | [_], _ => rfl),
    has_mk X G a20 l20 c20 k20 (fun _ _ _ _ _ _ us hl => match us, hl with | [_, _], _ => rfl),
    has_mk X G a21 l21 c21 k21 (fun _ _ _ _ _ _ us hl => match us, hl with | [_, _], _ => rfl),
    has_mk X G a22 l22 c22 k22 (fun _ _ _ _ _ _ us hl => match us, hl with | [_, _], _ => rfl),
    has_mk X G a23 l23 c23 k23 (fun _ _ _ _ _ _ us hl => match us, hl with | [_, _], _ => rfl),
    has_mk X G a24 l24 c24 k24 (fun _ _ _ _ _ _ us hl => match us, hl with | [_], _ => rfl),
    con_mk X G p0 q0 r0 v0,
    PySem.W.mg_none_of X G z0,
    PySem.W.mg_none_of X G z1,
    PySem.W.mg_none_of X G z2,
    PySem.W.mg_none_of X G z3,
    PySem.W.mg_none_of X G z4,
    PySem.W.mg_none_of X G z5,
    PySem.W.mg_none_of X G z6,
    PySem.W.mg_none_of X G z7,
    PySem.W.mg_none_of X G z8,
    PySem.W.mg_none_of X G z9,
    PySem.W.mg_none_of X G z10,
    PySem.W.mg_none_of X G z11,
    PySem.W.mg_none_of X G z12⟩
  refine ⟨PySem.W.fnOf "law" "law" (defArgs s_law) (defBody s_law) (defScope s_law) .none kV24 dc24 pm24 an24 cd24 ct24, fun s v => .of_eq rfl, fun base _ _ => ?_⟩
  exact law_of (fnlaw (fun_mk (st := s_law) l24 c24 k24) T) fun ns _ => law_true ns
theorem walk {l : PySem.W.OpenLaw} {q : Program} {loose : List Str} {XP : (Str → Option Value) → Heap → Prop} {YP : World → Heap → Prop} {d : DefRec} {K : Params → PySem.W.Frag} (hn : l.most = some 63) (hdf : d.params.defaults = [])
    (hY : ∀ (w : World) (h : Heap), YP w h → (K w.params).In h)
    (F : ∀ (w : World) (mg : Str → Option Value) (fa : Addr) (h : Heap), (K w.params).In h → h.Ns mainGlobals mg → mg d.name = some (.ref fa) →
      ∃ fd : FuncData, (∀ (s : Shared) (u : Value), BindsTo s fd ⟨[u], []⟩ [("_law_script", u)]) ∧ ∀ base : Heap, (K w.params).In base → base.Ns mainGlobals mg → FnOk l.prog w (K w.params) mg base CX0 15 fa fd ["_law_script"] (spLaw (K w.params))) :
    PySem.W.WalkO q loose XP YP l.row.toRowW d [] (fun f vs => PySem.call f vs) :=
  L2.walk_of (n := 63) (k := 15) (x := "_law_script") (CX := fun _ => CX0) (sp := fun w => spLaw (K w.params)) hn (by decide) hdf ⟨rfl, by decide, by decide, rfl⟩ hY F (fun _ _ a ns hl _ hS => ⟨a, ns, rfl, hS, hl, fun _ => rfl⟩) fun _ _ _ _ _ z => z
end Ln
open PySem PySem.W PyProof.Rows
set_option maxRecDepth 100000 in
set_option maxHeartbeats 0 in
theorem PySem.Challenge.cw_mannerports_k08_stands_and_moments_by_ki_holds : PySem.Challenge.rw_mannerports_k08_stands_and_moments_by_ki.Holds := by
  w_on; o_law; k_head; (case hw => w_witness2)
  k_fill
  refine Ln.walk (l := PySem.Challenge.rw_mannerports_k08_stands_and_moments_by_ki) rfl rfl (fun w h Y => PySem.W.kIn_of Y) ?F
  case F =>
    intro w mg fa h KX G hmg
    refine' Ln.all_mk KX G hmg ?a0 ?l0 ?c0 ?k0 ?a1 ?l1 ?c1 ?k1 ?a2 ?l2 ?c2 ?k2 ?a3 ?l3 ?c3 ?k3 ?a4 ?l4 ?c4 ?k4 ?a5 ?l5 ?c5 ?k5 ?a6 ?l6 ?c6 ?k6 ?a7 ?l7 ?c7 ?k7 ?a8 ?l8 ?c8 ?k8 ?a9 ?l9 ?c9 ?k9 ?a10 ?l10 ?c10 ?k10 ?a11 ?l11 ?c11 ?k11 ?a12 ?l12 ?c12 ?k12 ?a13 ?l13 ?c13 ?k13 ?a14 ?l14 ?c14 ?k14 ?a15 ?l15 ?c15 ?k15 ?a16 ?l16 ?c16 ?k16 ?a17 ?l17 ?c17 ?k17 ?a18 ?l18 ?c18 ?k18 ?a19 ?l19 ?c19 ?k19 ?a20 ?l20 ?c20 ?k20 ?a21 ?l21 ?c21 ?k21 ?a22 ?l22 ?c22 ?k22 ?a23 ?l23 ?c23 ?k23 ?a24 ?l24 ?c24 ?k24 ?p0 ?q0 ?r0 ?v0 ?z0 ?z1 ?z2 ?z3 ?z4 ?z5 ?z6 ?z7 ?z8 ?z9 ?z10 ?z11 ?z12
    (case a0 => k_is)
    (case l0 => k_is)
    (case c0 => k_is)
    (case k0 => k_is)
    (case a1 => k_is)
    (case l1 => k_is)
    (case c1 => k_is)
    (case k1 => k_is)
    (case a2 => k_is)
    (case l2 => k_is)
    (case c2 => k_is)
    (case k2 => k_is)
    (case a3 => k_is)
    (case l3 => k_is)
    (case c3 => k_is)
    (case k3 => k_is)
    (case a4 => k_is)
    (case l4 => k_is)
    (case c4 => k_is)
    (case k4 => k_is)
    (case a5 => k_is)
    (case l5 => k_is)
    (case c5 => k_is)
    (case k5 => k_is)
    (case a6 => k_is)
    (case l6 => k_is)
    (case c6 => k_is)
    (case k6 => k_is)
    (case a7 => k_is)
    (case l7 => k_is)
    (case c7 => k_is)
    (case k7 => k_is)
    (case a8 => k_is)
    (case l8 => k_is)
    (case c8 => k_is)
    (case k8 => k_is)
    (case a9 => k_is)
    (case l9 => k_is)
    (case c9 => k_is)
    (case k9 => k_is)
    (case a10 => k_is)
    (case l10 => k_is)
    (case c10 => k_is)
    (case k10 => k_is)
    (case a11 => k_is)
    (case l11 => k_is)
    (case c11 => k_is)
    (case k11 => k_is)
    (case a12 => k_is)
    (case l12 => k_is)
    (case c12 => k_is)
    (case k12 => k_is)
    (case a13 => k_is)
    (case l13 => k_is)
    (case c13 => k_is)
    (case k13 => k_is)
    (case a14 => k_is)
    (case l14 => k_is)
    (case c14 => k_is)
    (case k14 => k_is)
    (case a15 => k_is)
    (case l15 => k_is)
    (case c15 => k_is)
    (case k15 => k_is)
    (case a16 => k_is)
    (case l16 => k_is)
    (case c16 => k_is)
    (case k16 => k_is)
    (case a17 => k_is)
    (case l17 => k_is)
    (case c17 => k_is)
    (case k17 => k_is)
    (case a18 => k_is)
    (case l18 => k_is)
    (case c18 => k_is)
    (case k18 => k_is)
    (case a19 => k_is)
    (case l19 => k_is)
    (case c19 => k_is)
    (case k19 => k_is)
    (case a20 => k_is)
    (case l20 => k_is)
    (case c20 => k_is)
    (case k20 => k_is)
    (case a21 => k_is)
    (case l21 => k_is)
    (case c21 => k_is)
    (case k21 => k_is)
    (case a22 => k_is)
    (case l22 => k_is)
    (case c22 => k_is)
    (case k22 => k_is)
    (case a23 => k_is)
    (case l23 => k_is)
    (case c23 => k_is)
    (case k23 => k_is)
    (case a24 => k_is)
    (case l24 => k_is)
    (case c24 => k_is)
    (case k24 => k_is)
    (case p0 => k_is)
    (case q0 => k_is)
    (case r0 => exact (by decide))
    (case v0 => exact .cons ⟨_, rfl⟩ (.cons ⟨_, rfl⟩ (.nil)))
    (case z0 => k_is)
    (case z1 => k_is)
    (case z2 => k_is)
    (case z3 => k_is)
    (case z4 => k_is)
    (case z5 => k_is)
    (case z6 => k_is)
    (case z7 => k_is)
    (case z8 => k_is)
    (case z9 => k_is)
    (case z10 => k_is)
    (case z11 => k_is)
    (case z12 => k_is)
