import PyProof.Rows.All
import Wide.All
import OpenK.AllK
import Wide.FinOn
import Lean
import PyProof.EqAt
import PyProof.EqKinds
import PyProof.TupleCall
import PyProof.NeKinds
import PyProof.Rows.SetFrom
import PyProof.WalksMore
import KE.KDictSum
import PyProof.AttrMissHeap
import PyProof.P3Eq
import PyProof.NeData
import PyProof.ConsumeWalk
import PyProof.ZipIter
import PyProof.Rows.TupAdd
import PyProof.Rows.IntBool
import PyProof.SliceStr2
import PyProof.StrBlockI
import KE.KSortAsk
import KE.KSortTup
import PyProof.TupleOfSeq
import PyProof.FString5
import PyProof.StrWalks
import PyProof.CallStr
import PyProof.Conv_int_bool
import PyProof.StrCalls
import PyProof.DictWalks
import PyProof.Rows.TupDisplay
import PyProof.DictTruth
import PySem.Challenge.RW_mannerports_k26_moves_told
set_option Elab.async false
set_option linter.all false
set_option maxRecDepth 100000
set_option maxHeartbeats 4000001
namespace PF
open PySem PySem.Spec PySem.SeqAt --
mutual
def plD : PyData -> Bool
 | .none => true
 | .int _ => true
 | .str _ => true
 | .tuple xs => plDs xs
 | _ => false
def plDs : List PyData -> Bool
 | [] => true
 | x :: xs => plD x && plDs xs
end
theorem plD_tup {xs : List PyData} : plD (.tuple xs) = plDs xs := by simp only [plD]
theorem plDs_cons {x : PyData} {xs : List PyData} : plDs (x :: xs) = (plD x && plDs xs) := by simp only [plDs]
theorem plDs_all : ∀ xs : List PyData, plDs xs = xs.all plD
 | [] => by simp only [plDs, List.all_nil]
 | x :: r => by rw [plDs_cons, List.all_cons, plDs_all r]
theorem evt {xs ys : List PyData} : PyData.eqv (.tuple xs) (.tuple ys) = PyData.eqvAll xs ys := by simp only [PyData.eqv]
theorem evs {x y : PyData} {xs ys : List PyData} : PyData.eqvAll (x :: xs) (y :: ys) = (PyData.eqv x y && PyData.eqvAll xs ys) := by simp only [PyData.eqvAll]
mutual
theorem eqv_pl : ∀ a b : PyData, plD a = true -> plD b = true -> (PyData.eqv a b = true ↔ a = b)
 | .none, b, _, hb => by cases b <;> simp [plD] at hb <;> simp [PyData.eqv]
 | .int i, b, _, hb => by cases b <;> simp [plD] at hb <;> simp [PyData.eqv]
 | .str i, b, _, hb => by cases b <;> simp [plD] at hb <;> simp [PyData.eqv]
 | .tuple xs, .tuple ys, ha, hb => by
  rw [evt, eqvs_pl xs ys (by rw [← plD_tup]; exact ha) (by rw [← plD_tup]; exact hb)]
  simp
 | .tuple xs, .none, _, _ => by simp [PyData.eqv]
 | .tuple xs, .int _, _, _ => by simp [PyData.eqv]
 | .tuple xs, .str _, _, _ => by simp [PyData.eqv]
 | .tuple xs, .bool _, _, hb => by simp [plD] at hb
 | .tuple xs, .list _, _, hb => by simp [plD] at hb
 | .tuple xs, .dict _, _, hb => by simp [plD] at hb
 | .bool _, _, ha, _ => by simp [plD] at ha
 | .list _, _, ha, _ => by simp [plD] at ha
 | .dict _, _, ha, _ => by simp [plD] at ha
theorem eqvs_pl : ∀ xs ys : List PyData, plDs xs = true -> plDs ys = true -> (PyData.eqvAll xs ys = true ↔ xs = ys)
 | [], [], _, _ => by simp [PyData.eqvAll]
 | [], _ :: _, _, _ => by simp [PyData.eqvAll]
 | _ :: _, [], _, _ => by simp [PyData.eqvAll]
 | x :: xs, y :: ys, ha, hb => by
  rw [plDs_cons, Bool.and_eq_true] at ha hb
  rw [evs, Bool.and_eq_true, eqv_pl x y ha.1 hb.1, eqvs_pl xs ys ha.2 hb.2, List.cons.injEq]
end
theorem eqv_self {a : PyData} (h : plD a = true) : PyData.eqv a a = true := (eqv_pl a a h h).mpr rfl
mutual
def hashD (w : World) : PyData -> Int
 | .none => 0xFCA86420
 | .int i => hashInt i
 | .str x => hashStr w x
 | .tuple xs => reduceHash (Builtin.Tuple.tupleHashOf (hashDs w xs))
 | _ => 0
def hashDs (w : World) : List PyData -> List Int
 | [] => []
 | x :: xs => hashD w x :: hashDs w xs
end
mutual
def drawsD : PyData -> Nat
 | .tuple xs => drawsDs xs + 1
 | _ => 1
def drawsDs : List PyData -> Nat
 | [] => 0
 | x :: xs => drawsD x + drawsDs xs
end
theorem hashDs_map (w : World) : ∀ xs : List PyData, hashDs w xs = xs.map (hashD w)
 | [] => by simp only [hashDs, List.map_nil]
 | x :: r => by simp only [hashDs, List.map_cons, hashDs_map w r]
theorem drawsDs_app : ∀ xs ys : List PyData, drawsDs (xs ++ ys) = drawsDs xs + drawsDs ys
 | [], ys => by simp [drawsDs]
 | x :: r, ys => by simp only [List.cons_append, drawsDs, drawsDs_app r ys]; omega
theorem depth_mem : ∀ {xs : List PyData} {x : PyData}, x ∈ xs -> x.depth <= PyData.depthAll xs
 | [], x, h => by cases h
 | y :: r, x, h => by
  simp only [PyData.depthAll]
  (rcases List.mem_cons.mp h with rfl | h)
  ·omega
  ·have := depth_mem h; omega
section
variable {prog : Program} {w : World} --
theorem hash_none {A : Around} {E : Value -> Shared -> Prop} {s : Shared} {Q : Int -> Shared -> Prop} (h : Q 0xFCA86420 { s with toks := s.toks + 1 }) : wpAny (model prog w) A (pyHash .none) Q E s := by
 unfold pyHash
 have hv : [Value.none].any Value.onHeap = false := rfl
 refine wpAny_bind ?_
 (rw [cRoomFor, if_neg (by rw [hv]; exact Bool.false_ne_true)]; refine wpAny_pure ?_)
 refine wpAny_bind (wpAny_specialOf (typeIs_none s) F.slot_NoneType_hash.lookup ?_)
 show wpAny _ _ (if (some (Value.builtin "NoneType.__hash__") == some Value.none) = true then _ else _) Q E s
 (rw [if_neg (by rw [beq_builtin_none]; exact Bool.false_ne_true)])
 refine wpAny_bind (wpAny_specialOf (typeIs_none s) F.slot_NoneType_hash.lookup ?_)
 show wpAny _ _ (callSpecialIfBoundUnlessNone? .none "__hash__" _ >>= _) Q E s
 refine wpAny_bind (wpAny_callSpecialIfBoundUnlessNone?_slot (typeIs_none s) F.slot_NoneType_hash
  (wpAny_call_entry F.slot_NoneType_hash (typeIs_none s) F.entry_NoneType_hash
   (show wpAny _ _ (do ret (← mkInt 0xFCA86420)) _ _ s from wpAny_ret_mkInt ?_) (F.args_NoneType_hash_1 _)))
 show wpAny _ _ (if (decide (-(2 : Int) ^ 63 <= 0xFCA86420) && decide ((0xFCA86420 : Int) < 2 ^ 63)) = true then _ else _) Q E _
 rw [if_pos (by decide)]
 exact wpAny_pure h
mutual
theorem hash_ok : ∀ (d : PyData) {A : Around} {E : Value -> Shared -> Prop} {s : Shared} {v : Value} {bs : List Addr} {Q : Int -> Shared -> Prop}, plD d = true -> Reads s.heap v d bs -> A.units + d.depth < cLine -> Q (hashD w d) { s with toks := s.toks + drawsD d } -> wpAny (model prog w) A (pyHash v) Q E s
 | .none, A, E, s, v, bs, Q, _, r, _, h => by cases r; simp only [hashD, drawsD] at h; exact hash_none h
 | .int i, A, E, s, v, bs, Q, _, r, _, h => by cases r; simp only [hashD, drawsD] at h; exact wpAny_pyHash_int h
 | .str x, A, E, s, v, bs, Q, _, r, _, h => by cases r; simp only [hashD, drawsD] at h; exact wpAny_pyHash_str h
 | .tuple xs, A, E, s, v, bs, Q, hp, r, hu, h => by
  have ih := hashes_ok xs
  rw [plD_tup, plDs_all, List.all_eq_true] at hp
  (simp only [PyData.depth] at hu)
  cases r with
  | @tuple a o items n _ _ ho hc hd hi =>
  have hT : s.TypeIs (.ref a) "tuple" := ⟨o, ho, hc⟩
  unfold pyHash pyHashByItsType
  refine wpAny_bind (wpAny_cRoomFor_or (.inr (by omega)) ?_)
  (refine wpAny_bind (wpAny_specialOf hT F.slot_tuple_hash.lookup ?_))
  show wpAny _ _ (if (some (Value.builtin "tuple.__hash__") == some Value.none) = true then _ else _) Q E s --
  (rw [if_neg (by rw [beq_builtin_none]; exact Bool.false_ne_true)])
  (refine wpAny_bind (wpAny_specialOf hT F.slot_tuple_hash.lookup ?_))
  show wpAny _ _ (callSpecialIfBoundUnlessNone? (.ref a) "__hash__" _ >>= _) Q E s --
  (refine wpAny_bind (wpAny_callSpecialIfBoundUnlessNone?_slot hT F.slot_tuple_hash (wpAny_call_entry F.slot_tuple_hash hT F.entry_tuple_hash ?_ (F.args_tuple_hash_1 _))))
  show wpAny _ _ (Builtin.Tuple.tupleItemsOf (.ref a) >>= _) _ _ s --
  (refine wpAny_bind (wpAny_tupleItemsOf ho hd ?_))
  refine wpAny_bind ?_
  rw [← Array.forIn_toList]
  refine wpAny_forIn_list _
   (fun rest (b : Array Int) s' => ∃ done left cs, xs = done ++ left /\ ReadsAll s.heap rest left cs /\ b.toList = done.map (hashD w) /\ s' = { s with toks := s.toks + drawsDs done })
   _ ?_ ?_ _ _ ⟨[], xs, _, rfl, hi, rfl, rfl⟩
  ·rintro x rest b s' ⟨done, left, cs, e, hl, hb, rfl⟩
   cases hl with
   | @cons _ _ k ks' _ _ h1 hl' =>
    have hm : k ∈ xs := by rw [e]; simp
    have hdk := depth_mem hm
    have e1 : ∀ A : Around, A.in1.units <= A.units + 1 := fun A => by first | exact Nat.le_refl _ | (unfold Around.in1; simp)
    have e1A := e1 A
    refine wpAny_bind (ih k hm (s := { s with toks := s.toks + drawsDs done }) (hp k hm) h1 (by omega) ?_)
    first
     | exact wpAny_pure ⟨done ++ [k], ks', _, by rw [e]; simp, hl', by simp [hb], by simp [drawsDs_app, drawsDs, Nat.add_assoc]⟩
     | exact wpAny_bind (wpAny_pure (wpAny_pure ⟨done ++ [k], ks', _, by rw [e]; simp, hl', by simp [hb], by simp [drawsDs_app, drawsDs, Nat.add_assoc]⟩))
  ·rintro b s' ⟨done, left, cs, e, hl, hb, rfl⟩
   cases hl
   rw [List.append_nil] at e
   subst e
   show wpAny _ _ (retInt (Builtin.Tuple.tupleHashOf b.toList)) _ _ _ --
   rw [hb, ← hashDs_map]
   refine wpAny_ret_mkInt ?_
   show wpAny _ _ (if (decide (-(2 : Int) ^ 63 <= Builtin.Tuple.tupleHashOf (hashDs w xs)) && decide (Builtin.Tuple.tupleHashOf (hashDs w xs) < 2 ^ 63)) = true then _ else _) Q E _
   simp only [hashD, drawsD] at h
   unfold reduceHash at h
   by_cases hr : (decide (-(2 : Int) ^ 63 <= Builtin.Tuple.tupleHashOf (hashDs w xs)) && decide (Builtin.Tuple.tupleHashOf (hashDs w xs) < 2 ^ 63)) = true
   ·rw [if_pos hr]
    rw [if_pos hr] at h
    (exact wpAny_pure (by simpa [Nat.add_assoc] using h))
   ·rw [if_neg hr]
    rw [if_neg hr] at h
    (exact wpAny_bind (wpAny_rule (wpAny_pure (by simpa [Nat.add_assoc] using h))))
 | .bool _, _, _, _, _, _, _, hp, _, _, _ => by simp [plD] at hp
 | .list _, _, _, _, _, _, _, hp, _, _, _ => by simp [plD] at hp
 | .dict _, _, _, _, _, _, _, hp, _, _, _ => by simp [plD] at hp
theorem hashes_ok : ∀ (xs : List PyData), ∀ d ∈ xs, ∀ {A : Around} {E : Value -> Shared -> Prop} {s : Shared} {v : Value} {bs : List Addr} {Q : Int -> Shared -> Prop}, plD d = true -> Reads s.heap v d bs -> A.units + d.depth < cLine -> Q (hashD w d) { s with toks := s.toks + drawsD d } -> wpAny (model prog w) A (pyHash v) Q E s
 | [], d, m => by cases m
 | x :: r, d, m => by
  intro h1 h2 h3 h4
  rcases List.mem_cons.mp m with e | m
  ·rw [e] at h1 h2 h3 h4
   exact hash_ok x h1 h2 h3 h4
  ·exact hashes_ok r d m h1 h2 h3 h4
end
mutual
theorem quiet_ok : ∀ (d : PyData) {n : Nat} {A : Around} {E : Value -> Shared -> Prop} {s : Shared} {v : Value} {bs : List Addr} {Q : Bool -> Shared -> Prop}, plD d = true -> Reads s.heap v d bs -> d.depth <= n -> Q true s -> wpAny (model prog w) A (eqIsQuiet n v) Q E s
 | .none, n, A, E, s, v, bs, Q, _, r, _, h => by cases r; rw [eqIsQuiet_byValue n rfl]; exact wpAny_pure h
 | .int i, n, A, E, s, v, bs, Q, _, r, _, h => by cases r; rw [eqIsQuiet_byValue n rfl]; exact wpAny_pure h
 | .str x, n, A, E, s, v, bs, Q, _, r, _, h => by cases r; rw [eqIsQuiet_byValue n rfl]; exact wpAny_pure h
 | .tuple xs, n, A, E, s, v, bs, Q, hp, r, hu, h => by
  have ih := quiets_ok xs
  rw [plD_tup, plDs_all, List.all_eq_true] at hp
  (simp only [PyData.depth] at hu)
  obtain ⟨m, rfl⟩ : ∃ m, n = m + 1 := ⟨n - 1, by omega⟩
  cases r with
  | @tuple a o items n _ _ ho hc hd hi =>
  have hT : s.TypeIs (.ref a) "tuple" := ⟨o, ho, hc⟩
  unfold eqIsQuiet
  (refine wpAny_bind (wpAny_specialOf hT F.slot_tuple_eq.lookup ?_))
  show wpAny _ _ (isInstance (.ref a) (.type "tuple") >>= _) _ _ s --
  (refine wpAny_bind (wpAny_isInstance hT isSubtype_tuple_tuple ?_))
  (simp only [Bool.not_true, Bool.false_eq_true, if_false])
  (refine wpAny_bind (wpAny_seqItems ho hd ?_))
  refine wpAny_bind ?_
  show wpAny _ _ (forIn items _ _) _ _ s --
  rw [← Array.forIn_toList]
  refine wpAny_forIn_list _ (fun rest r s' => r.1 = none /\ s' = s /\ ∃ left cs, (∀ x ∈ left, x ∈ xs) /\ ReadsAll s.heap rest left cs) _ ?_ ?_ _ _ ⟨rfl, rfl, xs, _, fun _ m => m, hi⟩
  ·rintro v rest r s' ⟨hr, rfl, left, cs, sub, hl⟩
   cases hl with
   | @cons _ _ k ks' _ _ h1 hl' =>
    have hm := sub k List.mem_cons_self
    have hdk := depth_mem hm
    refine wpAny_bind (ih k hm (hp k hm) h1 (by omega) ?_)
    (simp only [Bool.not_true, Bool.false_eq_true, if_false])
    exact wpAny_pure ⟨rfl, rfl, ks', _, fun x m => sub x (List.mem_cons_of_mem _ m), hl'⟩
  ·rintro ⟨r1, r2⟩ s' ⟨hr, rfl, _⟩
   simp only at hr
   subst hr
   exact wpAny_pure h
 | .bool _, _, _, _, _, _, _, _, hp, _, _, _ => by simp [plD] at hp
 | .list _, _, _, _, _, _, _, _, hp, _, _, _ => by simp [plD] at hp
 | .dict _, _, _, _, _, _, _, _, hp, _, _, _ => by simp [plD] at hp
theorem quiets_ok : ∀ (xs : List PyData), ∀ d ∈ xs, ∀ {n : Nat} {A : Around} {E : Value -> Shared -> Prop} {s : Shared} {v : Value} {bs : List Addr} {Q : Bool -> Shared -> Prop}, plD d = true -> Reads s.heap v d bs -> d.depth <= n -> Q true s -> wpAny (model prog w) A (eqIsQuiet n v) Q E s
 | [], d, m => by cases m
 | x :: r, d, m => by
  intro h1 h2 h3 h4
  rcases List.mem_cons.mp m with e | m
  ·rw [e] at h1 h2 h3
   exact quiet_ok x h1 h2 h3 h4
  ·exact quiets_ok r d m h1 h2 h3 h4
end
mutual
theorem reads_but : ∀ (d : PyData) {h h' : Heap} {v : Value} {bs : List Addr} {a : Addr} {o : Obj} {es : Array DictEntry} {ep : Nat}, plD d = true -> Reads h v d bs -> h.get? a = some o -> o.data = .dict es ep -> Heap.SameBut a h h' -> Reads h' v d bs
 | .none, _, _, _, _, _, _, _, _, _, r, _, _, _ => by cases r; exact .none
 | .int i, _, _, _, _, _, _, _, _, _, r, _, _, _ => by cases r; exact .int _ _
 | .str x, _, _, _, _, _, _, _, _, _, r, _, _, _ => by cases r; exact .str _ _
 | .tuple xs, h, h', v, bs, a, o, es, ep, hp, r, ho, hd, hs => by
  rw [plD_tup] at hp
  cases r with
  | @tuple b ob items n _ _ h1 h2 h3 h4 =>
   have ne : b ≠ a := by
    rintro rfl
    rw [h1] at ho
    cases ho
    rw [hd] at h3; cases h3
   exact .tuple ((hs.2 b ne).trans h1) h2 h3 (readss_but xs hp h4 ho hd hs)
 | .bool _, _, _, _, _, _, _, _, _, hp, _, _, _, _ => by simp [plD] at hp
 | .list _, _, _, _, _, _, _, _, _, hp, _, _, _, _ => by simp [plD] at hp
 | .dict _, _, _, _, _, _, _, _, _, hp, _, _, _, _ => by simp [plD] at hp
theorem readss_but : ∀ (xs : List PyData) {h h' : Heap} {vs : List Value} {bs : List Addr} {a : Addr} {o : Obj} {es : Array DictEntry} {ep : Nat}, plDs xs = true -> ReadsAll h vs xs bs -> h.get? a = some o -> o.data = .dict es ep -> Heap.SameBut a h h' -> ReadsAll h' vs xs bs
 | [], _, _, _, _, _, _, _, _, _, r, _, _, _ => by cases r; exact .nil
 | x :: xs, _, _, _, _, _, _, _, _, hp, r, ho, hd, hs => by
  rw [plDs_cons, Bool.and_eq_true] at hp
  cases r with
  | cons r1 r2 => exact .cons (reads_but x hp.1 r1 ho hd hs) (readss_but xs hp.2 r2 ho hd hs)
end
def keyOk (d : PyData) : Bool := plD d && d.canLay0 && decide (d.depth <= 8)
theorem keyOk_iff {d : PyData} : keyOk d = true ↔ plD d = true /\ d.canLay0 = true /\ d.depth <= 8 := by
 unfold keyOk
 simp only [Bool.and_eq_true, decide_eq_true_eq, and_assoc]
noncomputable instance : DecidableEq PyData := fun a b => Classical.propDecidable (a = b)
noncomputable def dataKind (prog : Program) (w : World) : HeapKind prog w PyData where
 is h k a := keyOk k = true /\ ∃ bs, Reads h (.ref a) k bs
 hash := hashD w
 draws := drawsD
 room A := A.units + 10 < cLine
 inj := by
  rintro h a x y ⟨k1, b1, r1⟩ ⟨k2, b2, r2⟩
  exact Reads.unique x y _ _ _ (keyOk_iff.mp k1).2.1 r1 r2
 keeps := by
  rintro h h' k a d o es ep ⟨k1, b1, r1⟩ ho hd hs
  exact ⟨k1, b1, reads_but k (keyOk_iff.mp k1).1 r1 ho hd hs⟩
 pyHash := by
  rintro A E s k a Q hu ⟨k1, b1, r1⟩ h
  obtain ⟨p, c, d⟩ := keyOk_iff.mp k1
  exact hash_ok k p r1 (by omega) h
 eqBool := by
  rintro A E s x y a b Q hu ⟨k1, b1, r1⟩ ⟨k2, b2, r2⟩ h
  obtain ⟨p, c, d⟩ := keyOk_iff.mp k1
  obtain ⟨p', c', d'⟩ := keyOk_iff.mp k2
  refine eqAt_reads x y A s _ _ _ _ r1 r2 c c' (by omega) prog w E Q ?_
  have : PyData.eqv x y = decide (x = y) := by
   (rw [Bool.eq_iff_iff, decide_eq_true_eq])
   exact eqv_pl x y p p'
  rw [this]; exact h
 quiet := by
  rintro A E s k a Q ⟨k1, b1, r1⟩ h
  obtain ⟨p, c, d⟩ := keyOk_iff.mp k1
  exact quiet_ok k p r1 (by omega) h
end
end PF
namespace L2
open PySem PySem.Spec PyProof.Rows
abbrev Key := Sum Int Str
def keyIs : Key -> Value -> Bool
 | .inl k, v => Value.isInt k v
 | .inr x, v => Value.isStrOf x v
def keyH (w : World) : Key -> Int
 | .inl k => hashInt k
 | .inr x => hashStr w x
theorem keyIs_shape : ∀ {k : Key} {v : Value}, keyIs k v = true -> (∃ i t, k = Sum.inl i /\ v = Value.int i t) \/ (∃ x t, k = Sum.inr x /\ v = Value.str x t)
 | .inl i, v, h => by
  obtain ⟨t, e⟩ := Value.isInt_shape (k := i) (v := v) h
  exact .inl ⟨i, t, rfl, e⟩
 | .inr x, v, h => by
  obtain ⟨t, e⟩ := Value.isStrOf_shape (x := x) (v := v) h
  exact .inr ⟨x, t, rfl, e⟩
theorem keyIs_int (i : Int) (t : Tok) : keyIs (.inl i) (.int i t) = true := by simp [keyIs, Value.isInt]
theorem keyIs_str (x : Str) (t : Tok) : keyIs (.inr x) (.str x t) = true := by simp [keyIs, Value.isStrOf]
theorem key_ll (a b : Int) : decide ((Sum.inl a : Key) = Sum.inl b) = (a == b) := by
 by_cases e : a = b
 ·subst e; simp
 ·have h : ¬ (Sum.inl a : Key) = Sum.inl b := fun q => e (Sum.inl.inj q)
  rw [decide_eq_false h]
  exact (beq_eq_false_iff_ne.mpr e).symm
theorem key_rr (a b : Str) : decide ((Sum.inr a : Key) = Sum.inr b) = decide (a = b) := by
 by_cases e : a = b
 ·subst e; simp
 ·have h : ¬ (Sum.inr a : Key) = Sum.inr b := fun q => e (Sum.inr.inj q)
  rw [decide_eq_false h, decide_eq_false e]
theorem key_lr (a : Int) (b : Str) : decide ((Sum.inl a : Key) = Sum.inr b) = false := decide_eq_false (fun q => nomatch q)
theorem key_rl (a : Str) (b : Int) : decide ((Sum.inr a : Key) = Sum.inl b) = false := decide_eq_false (fun q => nomatch q)
def mixKind (prog : Program) (w : World) : PySem.KeyKind prog w Key where
 is := keyIs
 hash := keyH w
 inj := fun v a b ha hb => by
  rcases keyIs_shape ha with ⟨i, t, rfl, rfl⟩ | ⟨x, t, rfl, rfl⟩
  ·rcases keyIs_shape hb with ⟨j, u, rfl, e⟩ | ⟨y, u, rfl, e⟩
   ·injection e with e1 _; rw [e1]
   ·exact nomatch e
  ·rcases keyIs_shape hb with ⟨j, u, rfl, e⟩ | ⟨y, u, rfl, e⟩
   ·exact nomatch e
   ·injection e with e1 _; rw [e1]
 byValue := fun k v h => by
  rcases keyIs_shape h with ⟨i, t, rfl, rfl⟩ | ⟨x, t, rfl, rfl⟩ <;> rfl
 pyHash := fun hv h => by
  rcases keyIs_shape hv with ⟨i, t, rfl, rfl⟩ | ⟨x, t, rfl, rfl⟩
  ·exact wpAny_pyHash_int h
  ·exact wpAny_pyHash_str h
 eqBool := fun hu hv h => by
  rcases keyIs_shape hu with ⟨i, t, rfl, rfl⟩ | ⟨x, t, rfl, rfl⟩
  ·rcases keyIs_shape hv with ⟨j, u, rfl, rfl⟩ | ⟨y, u, rfl, rfl⟩
   ·rw [key_ll] at h; exact wpAny_eqBool_int h
   ·rw [key_lr] at h; exact SeqAt.EqAt.int_str i t y u _ _ _ _ h
  ·rcases keyIs_shape hv with ⟨j, u, rfl, rfl⟩ | ⟨y, u, rfl, rfl⟩
   ·rw [key_rl] at h; exact SeqAt.EqAt.str_int x t j u _ _ _ _ h
   ·rw [key_rr] at h; exact wpAny_eqBool_str h
 «strs» := fun k x t v h => by
  rcases keyIs_shape h with ⟨i, u, rfl, e⟩ | ⟨y, u, rfl, e⟩
  ·exact nomatch e
  ·injection e with e1 _
   subst e1
   cases v <;> rfl
theorem mixKind_int (prog : Program) (w : World) (i : Int) (t : Tok) : (mixKind prog w).is (.inl i) (.int i t) = true := keyIs_int i t
theorem mixKind_str (prog : Program) (w : World) (x : Str) (t : Tok) : (mixKind prog w).is (.inr x) (.str x t) = true := keyIs_str x t
end L2
namespace L2
open PySem PySem.Spec PyProof.Rows
inductive V where
 | non | bl (b : Bool) | int (i : Int) | str (x : Str) | byt (b : Array UInt8) | flt (b : UInt64) | ref (a : Addr) | ty (n : String)
 deriving DecidableEq
def RelV : V -> Value -> Prop
 | .non, u => u = Value.none
 | .bl b, u => u = Value.bool b
 | .int i, u => ∃ t, u = Value.int i t
 | .str x, u => ∃ t, u = Value.str x t
 | .byt b, u => ∃ t, u = Value.bytes b t
 | .flt b, u => ∃ t, u = Value.float b t
 | .ref a, u => u = Value.ref a
 | .ty n, u => u = Value.type n
abbrev Vals : List V -> List Value -> Prop := Paired RelV
theorem Vals.length {xs : List V} {us : List Value} (r : Vals xs us) : xs.length = us.length := Paired.length r
theorem Vals.get : ∀ {xs : List V} {us : List Value} {i : Nat} {x : V}, Vals xs us -> xs[i]? = some x -> ∃ u, us[i]? = some u /\ RelV x u
 | _, _, _, _, .nil, e => by simp at e
 | _, _, 0, _, .cons r _, e => by simp at e; subst e; exact ⟨_, rfl, r⟩
 | _, _, i + 1, x, .cons _ t, e => by
  obtain ⟨u, h1, h2⟩ := Vals.get (i := i) (x := x) t (by simpa using e)
  exact ⟨u, by simpa using h1, h2⟩
theorem Vals.set {x : V} {u : Value} (r : RelV x u) : ∀ {xs : List V} {us : List Value} (i : Nat), Vals xs us -> Vals (xs.set i x) (us.set i u)
 | _, _, _, .nil => .nil
 | _, _, 0, .cons _ t => .cons r t
 | _, _, i + 1, .cons q t => .cons q (Vals.set r i t)
theorem Vals.append : ∀ {xs ys : List V} {us ws : List Value}, Vals xs us -> Vals ys ws -> Vals (xs ++ ys) (us ++ ws)
 | _, _, _, _, .nil, s => s
 | _, _, _, _, .cons r t, s => .cons r (Vals.append t s)
theorem Vals.take : ∀ {xs : List V} {us : List Value} (n : Nat), Vals xs us -> Vals (xs.take n) (us.take n)
 | _, _, 0, _ => .nil
 | _, _, _ + 1, .nil => .nil
 | _, _, n + 1, .cons r t => .cons r (Vals.take n t)
theorem Vals.drop : ∀ {xs : List V} {us : List Value} (n : Nat), Vals xs us -> Vals (xs.drop n) (us.drop n)
 | _, _, 0, r => r
 | _, _, _ + 1, .nil => .nil
 | _, _, n + 1, .cons _ t => Vals.drop n t
def RelO : Option V -> Option Value -> Prop
 | some v, some u => RelV v u
 | none, none => True
 | _, _ => False
def KV {κ : Type} : List (κ × V) -> List (κ × Value) -> Prop := Paired fun (p : κ × V) (q : κ × Value) => p.1 = q.1 /\ RelV p.2 q.2
def kV : Key -> V
 | .inl i => .int i
 | .inr x => .str x
inductive HO where
 /-- a list -/
 | lst (xs : List V)
 /-- a tuple (never changes) -/
 | tup (xs : List V)
 /-- a dict whose keys are ints and texts; one whose keys are tuples of ints and texts (the empty one is both) -/
 | dK (kvs : List (Key × V)) | dT (kvs : List (List Key × V))
 /-- one whose keys are plain tuples -/
 | dD (kvs : List (PyData × V))
 /-- a set of ints: its members, its size -/
 | set (S : Int -> Bool) (n : Nat)
 /-- an instance of the class at C, its dict at dx, its attributes -/
 | ins (C dx : Addr) (fs : List (Str × V))
 /-- the dict of the instance at x -/
 | own (x : Addr)
 /-- the dict of an exception -/
 | xd (fs : List (Str × V))
 /-- a bound method, f of x -/
 | met (f x : Addr)
 /-- a range object lo, lo + 1, .. below hi -/
 | rng (lo hi : Int)
 /-- a thing that is known to the object (the script; a dict while a loop walks it): read, never written while it is so -/
 | frz (o : Obj) (u : HO)
 /-- a code object's table -/
 | tbl (ps : Array Value)
 /-- any other thing, by what is true of its one object (a def of one's own: SetO a S n := HO.ext fun h => ..) -/
 | ext (φ : Heap -> Prop)
abbrev Hp := Addr -> Option HO
mutual
inductive KD (H : Hp) : V -> PyData -> Prop
 | non : KD H .non .none
 | int (i : Int) : KD H (.int i) (.int i)
 | str (x : Str) : KD H (.str x) (.str x)
 | tup {p : Addr} {xs : List V} {ds : List PyData} : H p = some (.tup xs) -> KDs H xs ds -> KD H (.ref p) (.tuple ds)
inductive KDs (H : Hp) : List V -> List PyData -> Prop
 | nil : KDs H [] []
 | cons {x : V} {xs : List V} {d : PyData} {ds : List PyData} : KD H x d -> KDs H xs ds -> KDs H (x :: xs) (d :: ds)
end
mutual
theorem KD.mono {H H' : Hp} (ht : ∀ b xs, H b = some (.tup xs) -> H' b = some (.tup xs)) : ∀ {v : V} {d : PyData}, KD H v d -> KD H' v d
 | _, _, .non => .non
 | _, _, .int i => .int i
 | _, _, .str x => .str x
 | _, _, .tup e r => .tup (ht _ _ e) (KDs.mono ht r)
theorem KDs.mono {H H' : Hp} (ht : ∀ b xs, H b = some (.tup xs) -> H' b = some (.tup xs)) : ∀ {v : List V} {d : List PyData}, KDs H v d -> KDs H' v d
 | _, _, .nil => .nil
 | _, _, .cons a r => .cons (KD.mono ht a) (KDs.mono ht r)
end
def upd (H : Hp) (a : Addr) (o : HO) : Hp := fun b => if b = a then some o else H b
theorem upd_same {H : Hp} {a : Addr} {o : HO} : upd H a o a = some o := by unfold upd; rw [if_pos rfl]
theorem upd_ne {H : Hp} {a b : Addr} {o : HO} (h : b ≠ a) : upd H a o b = H b := by unfold upd; rw [if_neg h]
theorem ne_of {H : Hp} {a b : Addr} {o u : HO} (h : H a = some o) (h' : H b = some u) (d : o ≠ u) : a ≠ b := by
 intro e; subst e; rw [h] at h'; exact d (Option.some.inj h')
theorem ne_of_none {H : Hp} {a b : Addr} {o : HO} (h : H a = some o) (h' : H b = none) : a ≠ b := by
 intro e; subst e; rw [h] at h'; cases h'
section
variable (P : Program) (w : World)
def ObjOk (H : Hp) (h : Heap) (a : Addr) : HO -> Prop
 | .lst xs => xs.length <= sizeLine /\ ∃ (its : List Value) (n : Nat), Vals xs its /\ h.get? a = some { cls := .type "list", data := .seq its.toArray n }
 | .tup xs => xs.length <= sizeLine /\ ∃ its : List Value, Vals xs its /\ IsTup h a its.toArray
 | .dK kvs => kvs.length <= sizeLine /\ (a == sysModules) = false /\ ∃ vs, KV kvs vs /\ h.DictOf (mixKind P w) a vs
 | .dT kvs => kvs.length <= sizeLine /\ (a == sysModules) = false /\ ∃ xs : List (List Key × Addr × Value),
   Paired (fun (p : List Key × V) (q : List Key × Addr × Value) => p.1 = q.1 /\ H q.2.1 = some (.tup (p.1.map kV)) /\ RelV p.2 q.2.2) kvs xs /\
   ∃ o es ep, h.get? a = some o /\ o.ExactDict /\ o.data = .dict es ep /\ es.toList = xs.map (entryOfKey (tupleKind (mixKind P w))) /\ (xs.map (·.1)).Nodup
 | .dD kvs => kvs.length <= sizeLine /\ (a == sysModules) = false /\ ∃ xs : List (PyData × Addr × Value),
   Paired (fun (p : PyData × V) (q : PyData × Addr × Value) => p.1 = q.1 /\ (PF.keyOk p.1 = true /\ KD H (.ref q.2.1) p.1) /\ RelV p.2 q.2.2) kvs xs /\
   ∃ o es ep, h.get? a = some o /\ o.ExactDict /\ o.data = .dict es ep /\ es.toList = xs.map (entryOfKey (PF.dataKind P w)) /\ (xs.map (·.1)).Nodup
 | .set S n => h.SetOf (intKind P w) a S n
 | .ins C dx fs => H dx = some (.own a) /\ fs.length <= 1000 /\ dx ≠ a /\ h.get? a = some (PySem.W.instObj C dx) /\
   ∃ mA, h.Ns1 dx mA /\ (∀ f, RelO (fs.lookup f) (mA f)) /\ PySem.Within mA (fs.map (·.1))
 | .own _ => ∃ o, h.get? a = some o
 | .xd fs => ∃ mA, h.Ns1 a mA /\ ∀ f, RelO (fs.lookup f) (mA f)
 | .rng lo hi => ∃ t u v, h.get? a = some { cls := .type "range", data := .fields #[.int lo t, .int hi u, .int 1 v] }
 | .frz o u => h.get? a = some o /\ ObjOk H h a u
 | .tbl ps => h.get? a = some { cls := .none, data := .fields ps }
 | .met f x => h.get? a = some (PySem.W.methodObj (.ref f) (.ref x))
 | .ext φ => φ h /\ (∃ o, h.get? a = some o) /\ ∀ h1 h2 : Heap, φ h1 -> (∀ o, h1.get? a = some o -> h2.get? a = some o) -> φ h2
def HOk (H : Hp) (h : Heap) : Prop := ∀ a o, H a = some o -> ObjOk P w H h a o
end
section
variable {P : Program} {w : World} {H H' : Hp} {h h' : Heap} {a : Addr} {o : HO}
theorem ObjOk.lt (x : ObjOk P w H h a o) : a < h.objs.size := by
 cases o with
 | lst xs => obtain ⟨_, _, _, _, e⟩ := x; exact Heap.lt_size e
 | tup xs => obtain ⟨_, _, _, p⟩ := x; exact p.lt
 | dK kvs => obtain ⟨_, _, _, _, o, _, _, e, _⟩ := x; exact Heap.lt_size e
 | dT kvs => obtain ⟨_, _, _, _, o, _, _, e, _⟩ := x; exact Heap.lt_size e
 | dD kvs => obtain ⟨_, _, _, _, o, _, _, e, _⟩ := x; exact Heap.lt_size e
 | set S n => obtain ⟨o, _, _, _, e, _⟩ := x; exact Heap.lt_size e
 | ins C dx fs => obtain ⟨_, _, _, e, _⟩ := x; exact Heap.lt_size e
 | own y => obtain ⟨_, e⟩ := x; exact Heap.lt_size e
 | xd fs => obtain ⟨_, ⟨_, _, _, e, _⟩, _⟩ := x; exact Heap.lt_size e
 | rng lo hi => obtain ⟨_, _, _, e⟩ := x; exact Heap.lt_size e
 | frz ob u => obtain ⟨e, _⟩ := x; exact Heap.lt_size e
 | tbl ps => exact Heap.lt_size (show h.get? a = some _ from x)
 | met f y => exact Heap.lt_size (show h.get? a = some _ from x)
 | ext φ => obtain ⟨_, ⟨_, e⟩, _⟩ := x; exact Heap.lt_size e
theorem Paired.mapP {α β : Type} {F G : α -> β -> Prop} : ∀ {l₁ : List α} {l₂ : List β}, Paired F l₁ l₂ -> (∀ a b, F a b -> G a b) -> Paired G l₁ l₂
 | _, _, .nil, _ => .nil
 | _, _, .cons r t, f => .cons (f _ _ r) (Paired.mapP t f)
theorem ObjOk.stay (x : ObjOk P w H h a o) (k : ∀ b u, (b = a \/ H b = some (.own a)) -> h.get? b = some u -> h'.get? b = some u)
  (ho : ∀ b, H b = some (.own a) -> H' b = some (.own a)) (ht : ∀ b xs, H b = some (.tup xs) -> H' b = some (.tup xs)) : ObjOk P w H' h' a o := by
 induction o with
 | lst xs => obtain ⟨z, its, n, r, e⟩ := x; exact ⟨z, its, n, r, k _ _ (.inl rfl) e⟩
 | tup xs => obtain ⟨z, its, r, ob, e, c⟩ := x; exact ⟨z, its, r, ob, k _ _ (.inl rfl) e, c⟩
 | dK kvs => obtain ⟨z, y, vs, r, ob, es, ep, e, c⟩ := x; exact ⟨z, y, vs, r, ob, es, ep, k _ _ (.inl rfl) e, c⟩
 | dT kvs =>
  obtain ⟨z, y, xs, r, ob, es, ep, e, c⟩ := x
  exact ⟨z, y, xs, Paired.mapP r fun p q z => ⟨z.1, ht _ _ z.2.1, z.2.2⟩, ob, es, ep, k _ _ (.inl rfl) e, c⟩
 | dD kvs =>
  obtain ⟨z, y, xs, r, ob, es, ep, e, c⟩ := x
  exact ⟨z, y, xs, Paired.mapP r fun p q z => ⟨z.1, ⟨z.2.1.1, z.2.1.2.mono ht⟩, z.2.2⟩, ob, es, ep, k _ _ (.inl rfl) e, c⟩
 | set S n => obtain ⟨ob, es, ep, t, e, c⟩ := x; exact ⟨ob, es, ep, t, k _ _ (.inl rfl) e, c⟩
 | ins C dx fs =>
  obtain ⟨d, z, ne, e, mA, ⟨od, es, ep, e2, c⟩, r⟩ := x
  exact ⟨ho _ d, z, ne, k _ _ (.inl rfl) e, mA, ⟨od, es, ep, k _ _ (.inr d) e2, c⟩, r⟩
 | own y => obtain ⟨ob, e⟩ := x; exact ⟨ob, k _ _ (.inl rfl) e⟩
 | xd fs => obtain ⟨mA, ⟨od, es, ep, e, c⟩, r⟩ := x; exact ⟨mA, ⟨od, es, ep, k _ _ (.inl rfl) e, c⟩, r⟩
 | rng lo hi => obtain ⟨t, u, v, e⟩ := x; exact ⟨t, u, v, k _ _ (.inl rfl) e⟩
 | frz ob u ih => obtain ⟨e, q⟩ := x; exact ⟨k _ _ (.inl rfl) e, ih q⟩
 | tbl ps =>
  have e : h.get? a = some { cls := .none, data := .fields ps } := x
  show h'.get? a = some { cls := .none, data := .fields ps }
  exact k a _ (.inl rfl) e
 | met f y =>
  have e : h.get? a = some (PySem.W.methodObj (.ref f) (.ref y)) := x
  show h'.get? a = some (PySem.W.methodObj (.ref f) (.ref y))
  exact k a _ (.inl rfl) e
 | ext φ => obtain ⟨p, ⟨o, e⟩, st⟩ := x; exact ⟨st _ _ p fun o q => k _ _ (.inl rfl) q, ⟨o, k _ _ (.inl rfl) e⟩, st⟩
theorem HOk.lt (x : HOk P w H h) (e : H a = some o) : a < h.objs.size := (x a o e).lt
theorem HOk.fresh (x : HOk P w H h) (e : h.objs.size <= a) : H a = none := by
 cases q : H a with
 | none => rfl
 | some u => exact absurd (Nat.lt_of_lt_of_le (x.lt q) e) (Nat.lt_irrefl _)
theorem HOk.kept (x : HOk P w H h) (k : ∀ b u, h.get? b = some u -> h'.get? b = some u) : HOk P w H h' := fun a o e =>
 (x a o e).stay (fun b u _ q => k b u q) (fun _ q => q) fun _ _ q => q
theorem HOk.laid (x : HOk P w H h) (k : ∀ b u, h.get? b = some u -> h'.get? b = some u) (hp : h.objs.size <= a) (new : ObjOk P w (upd H a o) h' a o) : HOk P w (upd H a o) h' := fun b u e => by
 have hn := x.fresh hp
 by_cases hb : b = a
 ·subst hb; rw [upd_same] at e; cases e; exact new
 ·rw [upd_ne hb] at e
  exact (x b u e).stay (fun c v _ q => k c v q) (fun c q => by rw [upd_ne (ne_of_none q hn)]; exact q) fun c xs q => by rw [upd_ne (ne_of_none q hn)]; exact q
end
def Rd (H : Hp) (a : Addr) (u : HO) : Prop := H a = some u \/ ∃ o, H a = some (.frz o u)
theorem Rd.ok {P : Program} {w : World} {H : Hp} {h : Heap} {a : Addr} {u : HO} (r : Rd H a u) (x : HOk P w H h) : ObjOk P w H h a u := by
 rcases r with r | ⟨o, r⟩
 ·exact x a u r
 ·obtain ⟨_, q⟩ := x a _ r
  exact q
def Mut : Option HO -> Prop
 | some (.lst _) => True
 | some (.dK _) => True
 | some (.dT _) => True
 | some (.dD _) => True
 | some (.set _ _) => True
 | some (.ins _ _ _) => True
 | some (.ext _) => True
 | _ => False
section
variable {P : Program} {w : World} {H : Hp} {h h' : Heap} {x e : Addr} {o' : HO}
theorem HOk.write (ok : HOk P w H h) (mu : Mut (H x)) (he : e = x \/ H e = some (.own x)) (k : ∀ b u, b ≠ e -> h.get? b = some u -> h'.get? b = some u) (heo : ∃ u, h'.get? e = some u)
  (new : ObjOk P w (upd H x o') h' x o') : HOk P w (upd H x o') h' := fun b u q => by
 have nown : ∀ c y, H c = some (.own y) -> c ≠ x := fun c y r z => by subst z; rw [r] at mu; exact mu
 have ntup : ∀ c xs, H c = some (.tup xs) -> c ≠ x := fun c xs r z => by subst z; rw [r] at mu; exact mu
 by_cases hb : b = x
 ·subst hb; rw [upd_same] at q; cases q; exact new
 ·rw [upd_ne hb] at q
  by_cases hbe : b = e
  ·have q' : H b = some (.own x) := by
    rcases he with z | z
    ·exact absurd (hbe.trans z) hb
    ·rw [hbe]; exact z
   rw [q] at q'; cases q'
   obtain ⟨v, hv⟩ := heo
   exact ⟨v, by rw [hbe]; exact hv⟩
  ·refine (ok b u q).stay (fun c v hc r => k c v ?_ r) (fun c r => by rw [upd_ne (nown c b r)]; exact r) fun c xs r => by rw [upd_ne (ntup c xs r)]; exact r
   rcases hc with rfl | hc
   ·exact hbe
   ·rintro rfl
    rcases he with z | z
    ·exact nown c b hc z
    ·rw [hc] at z; cases z; exact hb rfl
end
structure Un (fs ex : List Addr) (H H' : Hp) (h h' : Heap) : Prop where
 keep : ∀ b o, h.get? b = some o -> H b = none -> b ∉ fs -> b ∉ ex -> h'.get? b = some o
 slot : ∀ b o, h.get? b = some o -> H b = none -> b ∈ fs -> b ∉ ex -> ∃ sl, h'.get? b = some { o with slots := sl }
 free : ∀ b o, h.get? b = some o -> H b = none -> b ∉ ex -> H' b = none
 there : ∀ b o, h.get? b = some o -> b ∉ ex -> ∃ o', h'.get? b = some o'
 tups : ∀ b xs, H b = some (.tup xs) -> H' b = some (.tup xs)
 frzs : ∀ b o u, H b = some (.frz o u) -> H' b = some (.frz o u)
 tbls : ∀ b ps, H b = some (.tbl ps) -> ∃ more, H' b = some (.tbl (ps ++ more))
section
variable {fs fs' ex ex' : List Addr} {H H1 H2 : Hp} {h h1 h2 h' : Heap} {a x e : Addr} {o : HO}
theorem Un.any (u : Un fs ex H H1 h h1) {b : Addr} {ob : Obj} (q : h.get? b = some ob) (n : H b = none) (hx : b ∉ ex) : ∃ sl, h1.get? b = some { ob with slots := sl } := by
 by_cases hb : b ∈ fs
 ·exact u.slot b ob q n hb hx
 ·exact ⟨ob.slots, u.keep b ob q n hb hx⟩
theorem Un.kept (k : ∀ b u, h.get? b = some u -> h'.get? b = some u) : Un fs ex H H h h' :=
 ⟨fun b ob q _ _ _ => k b ob q, fun b ob q _ _ _ => ⟨ob.slots, k b ob q⟩, fun _ _ _ n _ => n, fun b ob q _ => ⟨ob, k b ob q⟩, fun _ _ q => q, fun _ _ _ q => q, fun _ ps q => ⟨#[], by rw [q]; simp⟩⟩
theorem Un.refl : Un fs ex H H h h := Un.kept fun _ _ q => q
theorem Un.laid (k : ∀ b u, h.get? b = some u -> h'.get? b = some u) (hp : h.objs.size <= a) (hn : H a = none) : Un fs ex H (upd H a o) h h' where
 keep := fun b u q _ _ _ => k b u q
 slot := fun b u q _ _ _ => ⟨u.slots, k b u q⟩
 free := fun b u q n _ => by rw [upd_ne (Nat.ne_of_lt (Nat.lt_of_lt_of_le (Heap.lt_size q) hp))]; exact n
 there := fun b u q _ => ⟨u, k b u q⟩
 tups := fun b xs q => by rw [upd_ne (ne_of_none q hn)]; exact q
 frzs := fun b u xs q => by rw [upd_ne (ne_of_none q hn)]; exact q
 tbls := fun b ps q => ⟨#[], by rw [upd_ne (ne_of_none q hn), q]; simp⟩
theorem Un.write (mu : Mut (H x)) (he : e = x \/ H e = some (.own x)) (k : ∀ b u, b ≠ e -> h.get? b = some u -> h'.get? b = some u) (heo : ∃ u, h'.get? e = some u) : Un fs ex H (upd H x o) h h' := by
 have hx : ∀ b, H b = none -> b ≠ x := fun b n z => by subst z; rw [n] at mu; exact mu
 have hb : ∀ b, H b = none -> b ≠ e := fun b n z => by
  subst z
  rcases he with r | r
  ·exact hx b n r
  ·rw [n] at r; cases r
 have hm : ∀ b u, H b = some u -> ¬ Mut (some u) -> b ≠ x := fun b u q nm z => by subst z; rw [q] at mu; exact nm mu
 refine ⟨fun b u q n _ _ => k b u (hb b n) q, fun b u q n _ _ => ⟨u.slots, k b u (hb b n) q⟩, fun b u q n _ => by rw [upd_ne (hx b n)]; exact n, fun b u q _ => ?_,
  fun b xs q => by rw [upd_ne (hm b _ q fun z => z)]; exact q, fun b u xs q => by rw [upd_ne (hm b _ q fun z => z)]; exact q, fun b ps q => ⟨#[], by rw [upd_ne (hm b _ q fun z => z), q]; simp⟩⟩
 by_cases hbe : b = e
 ·subst hbe; exact heo
 ·exact ⟨u, k b u hbe q⟩
end
def trk (h : Heap) (H : Hp) : List Addr := (List.range h.objs.size).filter fun a => (H a).isSome
def hidT (h : Heap) (H : Hp) : Heap := PySem.W.hideAll h (trk h H)
theorem hidT_size (h : Heap) (H : Hp) : (hidT h H).objs.size = h.objs.size := PySem.W.hideAll_size _ _
theorem hidT_get {h : Heap} {H : Hp} {b : Addr} {o : Obj} (e : h.get? b = some o) (n : H b = none) : (hidT h H).get? b = some o :=
 PySem.W.hideAll_get _ e fun hm => by
  have q : (H b).isSome = true := (List.mem_filter.mp hm).2
  rw [n] at q; simp at q
theorem of_hidT {h : Heap} {H : Hp} {b : Addr} {o : Obj} (e : (hidT h H).get? b = some o) : h.get? b = some o /\ H b = none := by
 have e' : h.get? b = some o := PySem.W.of_hideAll (trk h H) e
 refine ⟨e', ?_⟩
 cases q : H b with
 | none => rfl
 | some x =>
  have hm : b ∈ trk h H := List.mem_filter.mpr ⟨List.mem_range.mpr (Heap.lt_size e'), by simp [q]⟩
  have z : (hidT h H).get? b = none := PySem.W.hideAll_none (trk h H) hm
  rw [z] at e; cases e
def allNews (g h : Heap) (L : Addr) : List (Addr × Obj) := (List.range h.objs.size).filterMap fun a => if a = L \/ (g.get? a).isSome = true then none else (h.get? a).map fun o => (a, o)
def rest (g h : Heap) (L d : Addr) : List (Addr × Obj) := (allNews g h L).filter fun p => decide (p.1 ≠ d)
end L2
namespace L2
open PySem PySem.Spec PyProof.Rows
structure Mod (K : PySem.W.Frag) (mg : Str -> Option Value) (base : Heap) : Prop where
 kin : K.In base
 glob : base.Ns mainGlobals mg
 blt : ∃ mb, base.Ns builtinsNs mb /\ ∀ x : Str, x ≠ "__name__" -> mb x = bootBuiltins x
 nolimit : base.NoLimit
structure Cx where
 prog : Program
 w : World
 K : PySem.W.Frag
 mg : Str -> Option Value
 base : Heap
 A : Around
 N : List Str
 s₀ : Shared
 H₀ : Hp
 env : Env
 outer : List Env
 stack : List Env
 ex : List Addr
 fn : Str -> Bool
 calm : Bool
 pn : List (Addr × Obj)
 xe : Value -> Shared -> Prop
def frs (l : List Env) : List Addr := l.filterMap (·.frame)
abbrev Cx.fs (X : Cx) : List Addr := frs X.outer
def Vis (sc : Scope) (x : Str) : Prop := sc.names.lookup x = some .local \/ sc.names.lookup x = some .cell \/ sc.names.lookup x = some .free
def Loc (sc : Scope) (x : Str) : Prop := sc.names.lookup x = some .local \/ sc.names.lookup x = some .cell
def Look (env : Env) (h : Heap) (m : Str -> Option Value) (x : Str) (u : Value) : Prop :=
 (env.kindOf x = some .local /\ m x = some u) \/ ((env.kindOf x = some .cell \/ env.kindOf x = some .free) /\ ∃ c, env.cells.lookup x = some c /\ h.IsCell c (some u))
structure Cx.Ok (X : Cx) : Prop where
 mod : Mod X.K X.mg X.base
 kind : X.env.scope.kind = .function
 glob : X.env.globals = mainGlobals
 blt : X.env.builtins = builtinsNs
 above : X.s₀.heap.objs.size <= X.env.locals
 inj : ∀ x y c, X.env.cells.lookup x = some c -> X.env.cells.lookup y = some c -> x = y
 has : ∀ x, (X.env.kindOf x = some .cell \/ X.env.kindOf x = some .free) -> ∃ c, X.env.cells.lookup x = some c
 cab : ∀ x c, X.fn x = true -> X.env.cells.lookup x = some c -> X.s₀.heap.objs.size <= c
 hd : X.calm = true -> X.A.handled = none
 frames : X.A.frames = some X.stack
 stk : X.stack = X.outer \/ (X.stack = X.env :: X.outer /\ X.env.frame = some X.env.locals)
 exf : ∀ b ∈ X.ex, b ≠ X.env.locals /\ ∀ x c, X.env.cells.lookup x = some c -> c ≠ b
 bs : ∀ b o, X.base.get? b = some o -> X.s₀.heap.get? b = some o /\ X.H₀ b = none
 bsz : X.base.objs.size <= X.s₀.heap.objs.size
 noex : ∀ b o, X.base.get? b = some o -> b ∉ X.ex
 exfs : ∀ b ∈ X.ex, b ∉ X.fs
 funs : X.s₀.heap.FunFrames X.base X.outer
 frf : ∀ b ∈ X.fs, X.H₀ b = none
structure Inv (X : Cx) (pins : List (Addr × Obj)) (σ : List (Option V)) (H : Hp) (s : Shared) : Prop where
 ok : X.Ok
 os : s.os = X.s₀.os
 bare : AllBare s.gens
 base : Un X.fs X.ex X.H₀ H X.s₀.heap s.heap
 loc : ∃ m, s.heap.Ns X.env.locals m /\ ∀ (i : Nat) (x : Str) (v : V), X.N[i]? = some x -> σ[i]? = some (some v) -> Vis X.env.scope x -> ∃ u, RelV v u /\ Look X.env s.heap m x u
 cell : ∀ x c, X.env.cells.lookup x = some c -> ∃ v, s.heap.IsCell c v
 free : H X.env.locals = none
 freeC : ∀ x c, X.env.cells.lookup x = some c -> H c = none
 pin : ∀ p ∈ X.pn ++ pins, s.heap.get? p.1 = some p.2 /\ H p.1 = none /\ p.1 ≠ X.env.locals /\ p.1 ∉ X.fs /\ ∀ v, p.2.data ≠ .cell v
 hok : HOk X.prog X.w H s.heap
 len : σ.length = X.N.length
section
variable {X : Cx} {pins : List (Addr × Obj)} {σ : List (Option V)} {H H' : Hp} {s : Shared} {h' : Heap}
theorem Cx.Ok.nofr (ok : X.Ok) {b : Addr} {o : Obj} (e : X.base.get? b = some o) : b ∉ X.fs := fun hb => by
 have := (ok.funs.mem hb).1
 rw [e] at this; cases this
theorem Inv.bs (I : Inv X pins σ H s) : ∀ b o, X.base.get? b = some o -> s.heap.get? b = some o /\ H b = none := fun b o e =>
 ⟨I.base.keep b o (I.ok.bs b o e).1 (I.ok.bs b o e).2 (I.ok.nofr e) (I.ok.noex b o e), I.base.free b o (I.ok.bs b o e).1 (I.ok.bs b o e).2 (I.ok.noex b o e)⟩
theorem Inv.bk (I : Inv X pins σ H s) : ∀ b o, X.base.get? b = some o -> s.heap.get? b = some o := fun b o e => (I.bs b o e).1
theorem Inv.mod (I : Inv X pins σ H s) : Mod X.K X.mg X.base := I.ok.mod
theorem Inv.kIn (I : Inv X pins σ H s) : X.K.In s.heap := I.ok.mod.kin.keeps I.bk
theorem Inv.lt (I : Inv X pins σ H s) : X.env.locals < s.heap.objs.size := let ⟨_, hn, _⟩ := I.loc; hn.lt
theorem Inv.sz (I : Inv X pins σ H s) : X.s₀.heap.objs.size <= s.heap.objs.size := Nat.le_trans I.ok.above (Nat.le_of_lt I.lt)
theorem Inv.nofs (I : Inv X pins σ H s) {a : Addr} (h : s.heap.objs.size <= a) : a ∉ X.fs := fun hb => by
 obtain ⟨_, o, ho, _⟩ := I.ok.funs.mem hb
 exact absurd (Nat.lt_of_lt_of_le (Heap.lt_size ho) (Nat.le_trans I.sz h)) (Nat.lt_irrefl _)
theorem Inv.cne (I : Inv X pins σ H s) : ∀ x c, X.env.cells.lookup x = some c -> c ≠ X.env.locals := fun x c e z => by
 obtain ⟨v, o, ho, hd⟩ := I.cell x c e
 obtain ⟨m, ⟨o', es, ep, ho', hd', _⟩, _⟩ := I.loc
 rw [z, ho'] at ho; cases ho; rw [hd'] at hd; cases hd
theorem Inv.funs (I : Inv X pins σ H s) : s.heap.FunFrames X.base X.outer := by
 have all : ∀ (l : List Env), (∀ b ∈ frs l, b ∈ X.fs) -> X.s₀.heap.FunFrames X.base l -> s.heap.FunFrames X.base l := by
  intro l
  induction l with
  | nil => intro _ _; trivial
  | cons env r ih =>
   intro hs hl
   obtain ⟨hk, ⟨L, o, hf, hn, ho, hd⟩, hr⟩ := hl
   have hL : L ∈ X.fs := hs L (by unfold frs; rw [List.filterMap_cons, hf]; exact List.mem_cons_self)
   obtain ⟨sl, e⟩ := I.base.slot L o ho (I.ok.frf L hL) hL fun z => I.ok.exfs L z hL
   exact ⟨hk, ⟨L, _, hf, hn, e, hd⟩, ih (fun b hb => hs b (by unfold frs; rw [List.filterMap_cons, hf]; exact List.mem_cons_of_mem _ hb)) hr⟩
 exact all X.outer (fun _ hb => hb) I.ok.funs
theorem Inv.stack (I : Inv X pins σ H s) : s.heap.FunFrames X.base X.stack := by
 rcases I.ok.stk with e | ⟨e, hf⟩
 ·rw [e]; exact I.funs
 ·rw [e]
  obtain ⟨m, hn, _⟩ := I.loc
  refine .cons (by rw [I.ok.kind]; decide) hf hn ?_ I.funs
  exact Heap.get?_none_of_le (Nat.le_trans I.ok.bsz I.ok.above)
theorem Inv.stkSub (I : Inv X pins σ H s) : ∀ b ∈ frs X.stack, b ∈ X.env.locals :: X.fs := fun b hb => by
 rcases I.ok.stk with e | ⟨e, hf⟩
 ·rw [e] at hb; exact List.mem_cons_of_mem _ hb
 ·rw [e] at hb
  unfold frs at hb
  rw [List.filterMap_cons, hf] at hb
  exact hb
theorem Inv.stkFree (I : Inv X pins σ H s) : ∀ b ∈ frs X.stack, H b = none := fun b hb => by
 rcases List.mem_cons.mp (I.stkSub b hb) with e | hb
 ·rw [e]; exact I.free
 ·obtain ⟨_, o, ho, _⟩ := I.ok.funs.mem hb
  exact I.base.free b o ho (I.ok.frf b hb) fun z => I.ok.exfs b z hb
theorem Inv.step {g' : Array GenState} {t' : Nat} {d' : Drawn} {ch : List Addr} (I : Inv X pins σ H s)
  (hch : ∀ b ∈ ch, (b ∈ X.ex \/ X.s₀.heap.objs.size <= b) /\ b ≠ X.env.locals /\ (∀ x c, X.env.cells.lookup x = some c -> c ≠ b) /\ ∀ p ∈ X.pn ++ pins, p.1 ≠ b)
  (keep : ∀ b o, b ≠ X.env.locals -> b ∉ X.fs -> b ∉ ch -> s.heap.get? b = some o -> H b = none -> h'.get? b = some o)
  (slot : ∀ b o, b ≠ X.env.locals -> b ∈ X.fs -> b ∉ ch -> s.heap.get? b = some o -> H b = none -> ∃ sl, h'.get? b = some { o with slots := sl }) (free : ∀ b o, b ∉ ch -> s.heap.get? b = some o -> H b = none -> H' b = none)
  (there : ∀ b o, b ∉ ch -> s.heap.get? b = some o -> ∃ o', h'.get? b = some o')
  (tups : ∀ b xs, H b = some (.tup xs) -> H' b = some (.tup xs)) (frzs : ∀ b o u, H b = some (.frz o u) -> H' b = some (.frz o u)) (tbls : ∀ b ps, H b = some (.tbl ps) -> ∃ more, H' b = some (.tbl (ps ++ more)))
  (ns : ∀ m, s.heap.Ns X.env.locals m -> h'.Ns X.env.locals m) (hok : HOk X.prog X.w H' h') (hg : AllBare g') :
  Inv X pins σ H' { s with heap := h', gens := g', drawn := d', toks := t' } := by
 have neL : ∀ b o, X.s₀.heap.get? b = some o -> b ≠ X.env.locals := fun b o e => Nat.ne_of_lt (Nat.lt_of_lt_of_le (Heap.lt_size e) I.ok.above)
 have neC : ∀ b o, X.s₀.heap.get? b = some o -> b ∉ X.ex -> b ∉ ch := fun b o e hx hb => by
  rcases (hch b hb).1 with z | z
  ·exact hx z
  ·exact absurd (Nat.lt_of_lt_of_le (Heap.lt_size e) z) (Nat.lt_irrefl _)
 have cellK : ∀ x c, X.env.cells.lookup x = some c -> ∀ v, s.heap.IsCell c v -> h'.IsCell c v := fun x c e v ⟨o, ho, hd⟩ => by
  have nch : c ∉ ch := fun z => (hch c z).2.2.1 x c e rfl
  by_cases hc : c ∈ X.fs
  ·obtain ⟨sl, q⟩ := slot c o (I.cne x c e) hc nch ho (I.freeC x c e)
   exact ⟨_, q, hd⟩
  ·exact ⟨o, keep c o (I.cne x c e) hc nch ho (I.freeC x c e), hd⟩
 refine ⟨I.ok, I.os, hg, ⟨fun b o e n hb hx => ?_, fun b o e n hb hx => ?_, fun b o e n hx => ?_, fun b o e hx => ?_, fun b xs e => tups b xs (I.base.tups b xs e), fun b o xs e => frzs b o xs (I.base.frzs b o xs e), fun b ps e => ?_⟩, ?_, fun x c e => ?_, ?_, fun x c e => ?_, fun p hp => ?_, hok, I.len⟩
 ·exact keep b o (neL b o e) hb (neC b o e hx) (I.base.keep b o e n hb hx) (I.base.free b o e n hx)
 ·obtain ⟨sl, e1⟩ := I.base.slot b o e n hb hx
  obtain ⟨sl', e2⟩ := slot b _ (neL b o e) hb (neC b o e hx) e1 (I.base.free b o e n hx)
  exact ⟨sl', e2⟩
 ·obtain ⟨o', e1⟩ := I.base.there b o e hx
  exact free b o' (neC b o e hx) e1 (I.base.free b o e n hx)
 ·obtain ⟨o', e1⟩ := I.base.there b o e hx
  exact there b o' (neC b o e hx) e1
 ·obtain ⟨m1, e1⟩ := I.base.tbls b ps e
  obtain ⟨m2, e2⟩ := tbls b _ e1
  exact ⟨m1 ++ m2, by rw [e2, Array.append_assoc]⟩
 ·obtain ⟨m, hn, hl⟩ := I.loc
  refine ⟨m, ns m hn, fun i x v e1 e2 e3 => ?_⟩
  obtain ⟨u, r, l⟩ := hl i x v e1 e2 e3
  refine ⟨u, r, ?_⟩
  rcases l with l | ⟨k, c, e, z⟩
  ·exact .inl l
  ·exact .inr ⟨k, c, e, cellK x c e _ z⟩
 ·obtain ⟨v, z⟩ := I.cell x c e
  exact ⟨v, cellK x c e v z⟩
 ·obtain ⟨m, ⟨o, _, _, ho, _⟩, _⟩ := I.loc
  exact free _ o (fun z => (hch _ z).2.1 rfl) ho I.free
 ·obtain ⟨v, o, ho, hd⟩ := I.cell x c e
  exact free c o (fun z => (hch c z).2.2.1 x c e rfl) ho (I.freeC x c e)
 ·obtain ⟨e, n, ne, nf, d⟩ := I.pin p hp
  have nch : p.1 ∉ ch := fun z => (hch p.1 z).2.2.2 p hp rfl
  exact ⟨keep p.1 p.2 ne nf nch e n, free p.1 p.2 nch e n, ne, nf, d⟩
theorem Inv.un {t' : Nat} (I : Inv X pins σ H s) (u : Un X.fs [] H H' s.heap h') (hok : HOk X.prog X.w H' h') : Inv X pins σ H' { s with heap := h', toks := t' } := by
 obtain ⟨m, ⟨o, es, ep, ho, r⟩, _⟩ := id I.loc
 obtain ⟨sl, hL⟩ := u.any ho I.free (by simp)
 exact I.step (g' := s.gens) (d' := s.drawn) (ch := []) (fun _ z => nomatch z) (fun b o _ hb _ e n => u.keep b o e n hb (by simp)) (fun b o _ hb _ e n => u.slot b o e n hb (by simp)) (fun b o _ e n => u.free b o e n (by simp)) (fun b o _ e => u.there b o e (by simp)) u.tups u.frzs u.tbls (fun m' hm => by
  obtain ⟨o', es', ep', ho', r'⟩ := hm
  rw [ho] at ho'; cases ho'
  exact ⟨_, es', ep', hL, r'⟩) hok I.bare
theorem Inv.call {g' : Array GenState} {t' : Nat} {d' : Drawn} {ch : List Addr} (I : Inv X pins σ H s) (u : Un (frs X.stack) ch H H' s.heap h') (hok : HOk X.prog X.w H' h') (hg : AllBare g')
  (hch : ∀ b ∈ ch, (b ∈ X.ex \/ X.s₀.heap.objs.size <= b) /\ b ≠ X.env.locals /\ (∀ x c, X.env.cells.lookup x = some c -> c ≠ b) /\ ∀ p ∈ X.pn ++ pins, p.1 ≠ b) :
  Inv X pins σ H' { s with heap := h', gens := g', drawn := d', toks := t' } := by
 obtain ⟨m, ⟨o, es, ep, ho, r⟩, _⟩ := id I.loc
 obtain ⟨sl, hL⟩ := u.any ho I.free fun z => (hch _ z).2.1 rfl
 exact I.step (ch := ch) hch (fun b o hL hb hc e n => u.keep b o e n (fun z => (List.mem_cons.mp (I.stkSub b z)).elim hL hb) hc) (fun b o _ _ hc e n => u.any e n hc) (fun b o hc e n => u.free b o e n hc) (fun b o hc e => u.there b o e hc) u.tups u.frzs u.tbls (fun m' hm => by
  obtain ⟨o', es', ep', ho', r'⟩ := hm
  rw [ho] at ho'; cases ho'
  exact ⟨_, es', ep', hL, r'⟩) hok hg
theorem Inv.turned {t' : Nat} {it : Addr} (I : Inv X pins σ H s) (k : ∀ b o, b ≠ it -> s.heap.get? b = some o -> h'.get? b = some o) (hn : H it = none) (hL : it ≠ X.env.locals)
  (h1 : it ∈ X.ex \/ X.s₀.heap.objs.size <= it) (h2 : ∀ x c, X.env.cells.lookup x = some c -> c ≠ it) (h3 : ∀ p ∈ X.pn ++ pins, p.1 ≠ it) : Inv X pins σ H { s with heap := h', toks := t' } := by
 have nit : ∀ b u, H b = some u -> b ≠ it := fun b u e z => by rw [z, hn] at e; cases e
 refine I.step (g' := s.gens) (d' := s.drawn) (ch := [it]) (fun b hb => ?_) (fun b o _ _ hc e _ => k b o (fun z => hc (by simp [z])) e) (fun b o _ _ hc e _ => ⟨o.slots, k b o (fun z => hc (by simp [z])) e⟩) (fun _ _ _ _ n => n)
  (fun b o hc e => ⟨o, k b o (fun z => hc (by simp [z])) e⟩) (fun _ _ e => e) (fun _ _ _ e => e) (fun b ps e => ⟨#[], by rw [e]; simp⟩) (fun m hm => ?_) (fun b u e => ?_) I.bare
 ·have e : b = it := by simpa using hb
  subst e
  exact ⟨h1, hL, h2, h3⟩
 ·obtain ⟨o, es, ep, ho, r⟩ := hm
  exact ⟨o, es, ep, k _ o (Ne.symm hL) ho, r⟩
 ·refine (I.hok b u e).stay (fun c v hc q => k c v ?_ q) (fun _ q => q) fun _ _ q => q
  rcases hc with z | z
  ·rw [z]; exact nit b u e
  ·exact nit c _ z
theorem Inv.tok (I : Inv X pins σ H s) (t : Nat) : Inv X pins σ H { s with toks := t } := I.un (h' := s.heap) (t' := t) Un.refl I.hok
theorem Inv.kept {t' : Nat} (I : Inv X pins σ H s) (k : ∀ b u, s.heap.get? b = some u -> h'.get? b = some u) : Inv X pins σ H { s with heap := h', toks := t' } := I.un (Un.kept k) (I.hok.kept k)
theorem Inv.laid {a : Addr} {o : HO} {t' : Nat} (I : Inv X pins σ H s) (k : ∀ b u, s.heap.get? b = some u -> h'.get? b = some u) (hp : s.heap.objs.size <= a) (new : ObjOk X.prog X.w (upd H a o) h' a o) :
  Inv X pins σ (upd H a o) { s with heap := h', toks := t' } := I.un (Un.laid k hp (I.hok.fresh hp)) (I.hok.laid k hp new)
theorem Inv.write {x e : Addr} {o : HO} {t' : Nat} (I : Inv X pins σ H s) (mu : Mut (H x)) (he : e = x \/ H e = some (.own x)) (k : ∀ b u, b ≠ e -> s.heap.get? b = some u -> h'.get? b = some u) (heo : ∃ u, h'.get? e = some u)
  (new : ObjOk X.prog X.w (upd H x o) h' x o) : Inv X pins σ (upd H x o) { s with heap := h', toks := t' } := I.un (Un.write mu he k heo) (I.hok.write mu he k heo new)
theorem Inv.pins_of {pins' : List (Addr × Obj)} (I : Inv X pins σ H s) (h : ∀ p ∈ pins', s.heap.get? p.1 = some p.2 /\ H p.1 = none /\ p.1 ≠ X.env.locals /\ p.1 ∉ X.fs /\ ∀ v, p.2.data ≠ .cell v) : Inv X pins' σ H s :=
 ⟨I.ok, I.os, I.bare, I.base, I.loc, I.cell, I.free, I.freeC, fun p hp => (List.mem_append.mp hp).elim (fun z => I.pin p (List.mem_append_left _ z)) (h p), I.hok, I.len⟩
theorem nodup_ix {N : List Str} (hN : N.Nodup) {i j : Nat} {x : Str} (a : N[i]? = some x) (b : N[j]? = some x) : i = j := by
 obtain ⟨h1, e1⟩ := List.getElem?_eq_some_iff.mp a
 obtain ⟨h2, e2⟩ := List.getElem?_eq_some_iff.mp b
 exact (List.getElem_inj hN).mp (e1.trans e2.symm)
theorem store_ok2 {M : Model} {A : Around} {E : Value -> Shared -> Prop} {i : Nat} {x : Str} {v : V} {u : Value} {Q : Unit -> Shared -> Prop} (I : Inv X pins σ H s) (hN : X.N.Nodup) (hi : X.N[i]? = some x) (hx : Loc X.env.scope x) (r : RelV v u)
  (h : ∀ s', Inv X pins (σ.set i (some v)) H s' -> (∃ a, Heap.SameBut a s.heap s'.heap /\ (a = X.env.locals \/ X.env.cells.lookup x = some a)) -> Q () s') (hf : X.fn x = true \/ X.env.scope.names.lookup x = some .local := by first | exact .inl rfl | exact .inr rfl | assumption) : wpAny M A (storeName X.env x u) Q E s := by
 obtain ⟨m, hn, hl⟩ := id I.loc
 have hcls : (X.env.scope.kind == .class || (X.env.scope.kind == .module && X.env.locals != X.env.globals)) = false := by rw [I.ok.kind]; rfl
 have hiσ : i < σ.length := by rw [I.len]; exact (List.getElem?_eq_some_iff.mp hi).1
 have cne := I.cne
 have tracked : ∀ {a : Addr} {h' : Heap}, (∃ o, s.heap.get? a = some o /\ H a = none) -> Heap.SameBut a s.heap h' -> HOk X.prog X.w H h' := fun {a h'} ha hs b ob e => by
  obtain ⟨_, _, hfree⟩ := ha
  refine (I.hok b ob e).stay (fun c w' hc q => (hs.2 c ?_).trans q) (fun _ q => q) fun _ _ q => q
  rintro rfl
  rcases hc with rfl | hc
  ·rw [hfree] at e; cases e
  ·rw [hfree] at hc; cases hc
 rcases hx with hk | hk
 ·refine wpAny_storeName_local hk hn (fun h' hn' hs => ?_) hcls
  obtain ⟨oL, _, _, hoL, _⟩ := id hn
  refine h _ ⟨I.ok, I.os, I.bare, ⟨fun b o e n hb hx => ?_, fun b o e n hb hx => ?_, I.base.free, fun b o e hx => ?_, I.base.tups, I.base.frzs, I.base.tbls⟩, ⟨_, hn', fun j y v' e1 e2 e3 => ?_⟩, fun y c e => ?_, I.free, I.freeC, fun p hp => ?_, tracked ⟨oL, hoL, I.free⟩ hs, by simpa using I.len⟩ ⟨_, hs, .inl rfl⟩
  ·exact (hs.2 b (Nat.ne_of_lt (Nat.lt_of_lt_of_le (Heap.lt_size e) I.ok.above))).trans (I.base.keep b o e n hb hx)
  ·obtain ⟨sl, e1⟩ := I.base.slot b o e n hb hx
   exact ⟨sl, (hs.2 b (Nat.ne_of_lt (Nat.lt_of_lt_of_le (Heap.lt_size e) I.ok.above))).trans e1⟩
  ·obtain ⟨o', e1⟩ := I.base.there b o e hx
   exact ⟨o', (hs.2 b (Nat.ne_of_lt (Nat.lt_of_lt_of_le (Heap.lt_size e) I.ok.above))).trans e1⟩
  ·by_cases hj : j = i
   ·subst hj
    rw [hi] at e1; cases e1
    rw [List.getElem?_set_self hiσ] at e2
    cases e2
    exact ⟨u, r, .inl ⟨hk, by simp⟩⟩
   ·rw [List.getElem?_set_ne (Ne.symm hj)] at e2
    obtain ⟨u', r', q⟩ := hl j y v' e1 e2 e3
    refine ⟨u', r', ?_⟩
    rcases q with ⟨k, e⟩ | ⟨k, c, e, z⟩
    ·refine .inl ⟨k, ?_⟩
     have : y ≠ x := fun e => hj (nodup_ix hN e1 (e ▸ hi))
     simp [this, e]
    ·exact .inr ⟨k, c, e, z.sameBut hs (cne y c e)⟩
  ·obtain ⟨w', z⟩ := I.cell y c e
   exact ⟨w', z.sameBut hs (cne y c e)⟩
  ·obtain ⟨e, n, ne, nf, d⟩ := I.pin p hp
   exact ⟨(hs.2 p.1 ne).trans e, n, ne, nf, d⟩
 ·have hfn : X.fn x = true := by
   rcases hf with z | z
   ·exact z
   ·rw [z] at hk; cases hk
  obtain ⟨c, hc⟩ := I.ok.has x (.inl hk)
  obtain ⟨w', z⟩ := I.cell x c hc
  refine wpAny_storeName_cell I.ok.kind hk hc z (fun h' hc' hs => ?_)
  obtain ⟨oc, hoc, hocd⟩ := id z
  refine h { s with heap := h' } ⟨I.ok, I.os, I.bare, ⟨fun b o e n hb hx => ?_, fun b o e n hb hx => ?_, I.base.free, fun b o e hx => ?_, I.base.tups, I.base.frzs, I.base.tbls⟩, ⟨m, hn.sameBut hs (Ne.symm (cne x c hc)), fun j y v' e1 e2 e3 => ?_⟩, fun y c' e => ?_, I.free, I.freeC, fun p hp => ?_, tracked ⟨oc, hoc, I.freeC x c hc⟩ hs, by simpa using I.len⟩ ⟨c, hs, .inr hc⟩
  ·exact (hs.2 b (Nat.ne_of_lt (Nat.lt_of_lt_of_le (Heap.lt_size e) (I.ok.cab x c hfn hc)))).trans (I.base.keep b o e n hb hx)
  ·obtain ⟨sl, e1⟩ := I.base.slot b o e n hb hx
   exact ⟨sl, (hs.2 b (Nat.ne_of_lt (Nat.lt_of_lt_of_le (Heap.lt_size e) (I.ok.cab x c hfn hc)))).trans e1⟩
  ·obtain ⟨o', e1⟩ := I.base.there b o e hx
   exact ⟨o', (hs.2 b (Nat.ne_of_lt (Nat.lt_of_lt_of_le (Heap.lt_size e) (I.ok.cab x c hfn hc)))).trans e1⟩
  ·by_cases hj : j = i
   ·subst hj
    rw [hi] at e1; cases e1
    rw [List.getElem?_set_self hiσ] at e2
    cases e2
    exact ⟨u, r, .inr ⟨.inl hk, c, hc, hc'⟩⟩
   ·rw [List.getElem?_set_ne (Ne.symm hj)] at e2
    obtain ⟨u', r', q⟩ := hl j y v' e1 e2 e3
    refine ⟨u', r', ?_⟩
    rcases q with q | ⟨k, c', e, z'⟩
    ·exact .inl q
    ·refine .inr ⟨k, c', e, z'.sameBut hs ?_⟩
     rintro rfl
     exact hj (nodup_ix hN e1 (I.ok.inj _ _ _ e hc ▸ hi))
  ·by_cases hcc : c' = c
   ·subst hcc; exact ⟨_, hc'⟩
   ·obtain ⟨w2, z2⟩ := I.cell y c' e
    exact ⟨w2, z2.sameBut hs hcc⟩
  ·obtain ⟨e, n, ne, nf, d⟩ := I.pin p hp
   refine ⟨(hs.2 p.1 ?_).trans e, n, ne, nf, d⟩
   intro q
   rw [q, hoc] at e
   have q' : oc = p.2 := Option.some.inj e
   exact d w' (by rw [← q']; exact hocd)
theorem store_ok {M : Model} {A : Around} {E : Value -> Shared -> Prop} {i : Nat} {x : Str} {v : V} {u : Value} {Q : Unit -> Shared -> Prop} (I : Inv X pins σ H s) (hN : X.N.Nodup) (hi : X.N[i]? = some x) (hx : Loc X.env.scope x) (r : RelV v u)
  (h : ∀ s', Inv X pins (σ.set i (some v)) H s' -> Q () s') (hf : X.fn x = true \/ X.env.scope.names.lookup x = some .local := by first | exact .inl rfl | exact .inr rfl | assumption) : wpAny M A (storeName X.env x u) Q E s :=
 store_ok2 I hN hi hx r (fun s' I' _ => h s' I') hf
theorem Inv.call' {s' : Shared} {ch : List Addr} (I : Inv X pins σ H s) (ho : s'.os = s.os) (u : Un (frs X.stack) ch H H' s.heap s'.heap) (hok : HOk X.prog X.w H' s'.heap) (hg : AllBare s'.gens)
  (hch : ∀ b ∈ ch, (b ∈ X.ex \/ X.s₀.heap.objs.size <= b) /\ b ≠ X.env.locals /\ (∀ x c, X.env.cells.lookup x = some c -> c ≠ b) /\ ∀ p ∈ X.pn ++ pins, p.1 ≠ b) : Inv X pins σ H' s' := by
 obtain ⟨h', g', d', t', o'⟩ := s'
 have e : o' = s.os := ho
 subst e
 exact I.call (g' := g') (t' := t') (d' := d') u hok hg hch
end
abbrev XK := Value -> Option Addr -> Hp -> Prop
abbrev St := List (Option V)
abbrev VK := V -> Hp -> Prop
abbrev TE := St -> Hp -> VK -> Prop
abbrev TT := St -> Hp -> (Bool -> Hp -> Prop) -> Prop
abbrev TA := St -> Hp -> (List V -> Hp -> Prop) -> Prop
structure Ends where
 nx : St -> Hp -> Prop
 rt : VK
 bk : St -> Hp -> Prop := fun _ _ => False
 ct : St -> Hp -> Prop := fun _ _ => False
abbrev TS := Ends -> St -> Hp -> Prop
def EP (X : Cx) (pins : List (Addr × Obj)) (σ : St) (Q : VK) (u : Value) (s' : Shared) : Prop := ∃ v H', Inv X pins σ H' s' /\ RelV v u /\ Q v H'
def TP (X : Cx) (pins : List (Addr × Obj)) (σ : St) (Q : Bool -> Hp -> Prop) (b : Bool) (s' : Shared) : Prop := ∃ H', Inv X pins σ H' s' /\ Q b H'
def AP (X : Cx) (pins : List (Addr × Obj)) (σ : St) (Q : List V -> Hp -> Prop) (us : List Value) (s' : Shared) : Prop := ∃ vs H', Inv X pins σ H' s' /\ Vals vs us /\ Q vs H'
def SP (X : Cx) (pins : List (Addr × Obj)) (D : Ends) (f : Flow) (s' : Shared) : Prop :=
 match f with
 | .next => ∃ σ' H', Inv X pins σ' H' s' /\ D.nx σ' H'
 | .brk => ∃ σ' H', Inv X pins σ' H' s' /\ D.bk σ' H'
 | .cont => ∃ σ' H', Inv X pins σ' H' s' /\ D.ct σ' H'
 | .ret u => ∃ v σ' H', Inv X pins σ' H' s' /\ RelV v u /\ D.rt v H'
structure PE (X : Cx) (e : Expr) (t : TE) : Prop where
 run : ∀ (pins : List (Addr × Obj)) (s : Shared) (σ : St) (H : Hp) (Q : VK), Inv X pins σ H s -> t σ H Q -> wpAny (model X.prog X.w) X.A (eval e X.env) (EP X pins σ Q) X.xe s
instance {X : Cx} {e : Expr} {t : TE} : CoeFun (PE X e t) fun _ => ∀ (pins : List (Addr × Obj)) (s : Shared) (σ : St) (H : Hp) (Q : VK), Inv X pins σ H s -> t σ H Q -> wpAny (model X.prog X.w) X.A (eval e X.env) (EP X pins σ Q) X.xe s := ⟨PE.run⟩
structure PT (X : Cx) (e : Expr) (t : TT) : Prop where
 run : ∀ (pins : List (Addr × Obj)) (s : Shared) (σ : St) (H : Hp) (Q : Bool -> Hp -> Prop), Inv X pins σ H s -> t σ H Q -> wpAny (model X.prog X.w) X.A (isTrue e X.env (eval e X.env)) (TP X pins σ Q) X.xe s
instance {X : Cx} {e : Expr} {t : TT} : CoeFun (PT X e t) fun _ => ∀ (pins : List (Addr × Obj)) (s : Shared) (σ : St) (H : Hp) (Q : Bool -> Hp -> Prop), Inv X pins σ H s -> t σ H Q -> wpAny (model X.prog X.w) X.A (isTrue e X.env (eval e X.env)) (TP X pins σ Q) X.xe s := ⟨PT.run⟩
structure PW (X : Cx) (e : Expr) (t : TT) : Prop where
 run : ∀ (whole : Sem Value) (pins : List (Addr × Obj)) (s : Shared) (σ : St) (H : Hp) (Q : Bool -> Hp -> Prop), Inv X pins σ H s -> t σ H Q -> wpAny (model X.prog X.w) X.A (isTrue e X.env whole) (TP X pins σ Q) X.xe s
instance {X : Cx} {e : Expr} {t : TT} : CoeFun (PW X e t) fun _ => ∀ (whole : Sem Value) (pins : List (Addr × Obj)) (s : Shared) (σ : St) (H : Hp) (Q : Bool -> Hp -> Prop), Inv X pins σ H s -> t σ H Q -> wpAny (model X.prog X.w) X.A (isTrue e X.env whole) (TP X pins σ Q) X.xe s := ⟨PW.run⟩
theorem PW.pt {X : Cx} {e : Expr} {t : TT} (h : PW X e t) : PT X e t := ⟨h _⟩
structure PA (X : Cx) (es : List Expr) (t : TA) : Prop where
 run : ∀ (pos : Pos) (pins : List (Addr × Obj)) (s : Shared) (σ : St) (H : Hp) (Q : List V -> Hp -> Prop), Inv X pins σ H s -> t σ H Q -> wpAny (model X.prog X.w) X.A (spliced (backTo pos (starEach es X.env))) (AP X pins σ Q) X.xe s
instance {X : Cx} {es : List Expr} {t : TA} : CoeFun (PA X es t) fun _ => ∀ (pos : Pos) (pins : List (Addr × Obj)) (s : Shared) (σ : St) (H : Hp) (Q : List V -> Hp -> Prop), Inv X pins σ H s -> t σ H Q -> wpAny (model X.prog X.w) X.A (spliced (backTo pos (starEach es X.env))) (AP X pins σ Q) X.xe s := ⟨PA.run⟩
structure PS (X : Cx) (st : Stmt) (t : TS) : Prop where
 run : ∀ (pins : List (Addr × Obj)) (s : Shared) (σ : St) (H : Hp) (D : Ends), Inv X pins σ H s -> t D σ H -> wpAny (model X.prog X.w) X.A (exec st X.env) (SP X pins D) X.xe s
instance {X : Cx} {st : Stmt} {t : TS} : CoeFun (PS X st t) fun _ => ∀ (pins : List (Addr × Obj)) (s : Shared) (σ : St) (H : Hp) (D : Ends), Inv X pins σ H s -> t D σ H -> wpAny (model X.prog X.w) X.A (exec st X.env) (SP X pins D) X.xe s := ⟨PS.run⟩
structure PSs (X : Cx) (st : List Stmt) (t : TS) : Prop where
 run : ∀ (pins : List (Addr × Obj)) (s : Shared) (σ : St) (H : Hp) (D : Ends), Inv X pins σ H s -> t D σ H -> wpAny (model X.prog X.w) X.A (execs st X.env) (SP X pins D) X.xe s
instance {X : Cx} {st : List Stmt} {t : TS} : CoeFun (PSs X st t) fun _ => ∀ (pins : List (Addr × Obj)) (s : Shared) (σ : St) (H : Hp) (D : Ends), Inv X pins σ H s -> t D σ H -> wpAny (model X.prog X.w) X.A (execs st X.env) (SP X pins D) X.xe s := ⟨PSs.run⟩
theorem thn {α : Type} {t : Sem α} {Q Q' : α -> Shared -> Prop} {M : Model} {A : Around} {E : Value -> Shared -> Prop} {s : Shared} (h : wpAny M A t Q E s) (hQ : ∀ a s, Q a s -> Q' a s) : wpAny M A t Q' E s := wpAny_mono h hQ fun _ _ x => x
end L2
namespace L2
open PySem PySem.Spec PyProof.Rows
section
variable {X : Cx}
def tVar (i : Nat) : TE := fun σ H Q => ∃ v, σ[i]? = some (some v) /\ Q v H
def tC (v : V) : TE := fun _ H Q => Q v H
theorem pe_var {i : Nat} {x : Str} {pos : Pos} (hN : X.N[i]? = some x) (hv : Vis X.env.scope x) (hd : (x == ("__debug__" : Str)) = false := by decide) (hcd : (x == ("__classdict__" : Str)) = false := by decide) : PE X (.Name x pos) (tVar i) := by
 (first | refine ⟨?_⟩ | skip); intro pins s σ H Q I h
 obtain ⟨v, e, h⟩ := h
 obtain ⟨m, hn, hl⟩ := I.loc
 obtain ⟨u, r, l⟩ := hl i x v hN e hv
 have fin : EP X pins σ Q u s := ⟨v, H, I, r, h⟩
 rcases l with ⟨hk, hm⟩ | ⟨hk, c, hc, hcell⟩
 ·exact wpAny_Name (wpAny_loadName_local I.ok.kind hk hn hm fin) hd
 ·rcases hk with hk | hk
  ·exact wpAny_Name (wpAny_loadName_cell I.ok.kind hk hc hcell fin) hd
  ·exact wpAny_Name (wpAny_loadName_free I.ok.kind hk hc hcell fin hcd) hd
theorem pe_int {i j pos} : PE X (.Constant (.int i) j pos) (tC (.int i)) := .mk <| fun _ _ _ H _ I h => wpAny_Constant_int ⟨.int i, H, I.tok _, ⟨_, rfl⟩, h⟩
theorem pe_bl {b j pos} : PE X (.Constant (.bool b) j pos) (tC (.bl b)) := .mk <| fun _ _ _ H _ I h => Constant_bool ⟨.bl b, H, I, rfl, h⟩
theorem pe_non {j pos} : PE X (.Constant .none j pos) (tC .non) := .mk <| fun _ _ _ H _ I h => Constant_none ⟨.non, H, I, rfl, h⟩
theorem pe_str {x j pos} : PE X (.Constant (.str x) j pos) (tC (.str x)) := .mk <| fun _ _ _ H _ I h => Calls.Constant_str ⟨.str x, H, I.tok _, ⟨_, rfl⟩, h⟩
def Gl (X : Cx) (x : Str) : Prop := X.env.kindOf x = some .globalImplicit
theorem ld_glob {E : Value -> Shared -> Prop} {pins : List (Addr × Obj)} {s : Shared} {σ : St} {H : Hp} {x : Str} {u : Value} {pos : Pos} {Q : Value -> Shared -> Prop} (I : Inv X pins σ H s) (hg : Gl X x) (hm : X.mg x = some u) (h : Q u s)
  (hd : (x == ("__debug__" : Str)) = false := by decide) : wpAny (model X.prog X.w) X.A (eval (.Name x pos) X.env) Q E s :=
 Calls.Name_function_global I.ok.kind hg (Calls.loadGlobal_global (by rw [I.ok.glob]; exact I.mod.glob.keeps I.bk) hm h) hd
theorem ld_blt {E : Value -> Shared -> Prop} {pins : List (Addr × Obj)} {s : Shared} {σ : St} {H : Hp} {x : Str} {u : Value} {pos : Pos} {Q : Value -> Shared -> Prop} (I : Inv X pins σ H s) (hg : Gl X x) (hm : X.mg x = none) (hv : bootBuiltins x = some u) (h : Q u s)
  (hn : x ≠ "__name__" := by decide) (hd : (x == ("__debug__" : Str)) = false := by decide) : wpAny (model X.prog X.w) X.A (eval (.Name x pos) X.env) Q E s := by
 obtain ⟨mb, h1, h2⟩ := I.mod.blt
 exact Calls.Name_function_global I.ok.kind hg (Calls.loadGlobal_builtin (by rw [I.ok.glob]; exact I.mod.glob.keeps I.bk) hm (by rw [I.ok.blt]; exact h1.keeps I.bk) ((h2 x hn).trans hv) h) hd
theorem pe_bltn {x : Str} {v : V} {u : Value} {pos : Pos} (hg : Gl X x) (hm : X.mg x = none) (hv : bootBuiltins x = some u) (r : RelV v u) (hn : x ≠ "__name__" := by decide) (hd : (x == ("__debug__" : Str)) = false := by decide) : PE X (.Name x pos) (tC v) :=
 .mk <| fun _ _ _ H _ I h => ld_blt I hg hm hv ⟨v, H, I, r, h⟩ hn hd
variable {a b : Expr} {ta tb : TE} {pos : Pos}
variable {tA tB' : TT} {rest : List Expr}
def tAnd (t u : TT) : TT := fun σ H Q => t σ H fun c H1 => if c = true then u σ H1 Q else Q false H1
def tOr (t u : TT) : TT := fun σ H Q => t σ H fun c H1 => if c = true then Q true H1 else u σ H1 Q
def tNot (t : TT) : TT := fun σ H Q => t σ H fun c H1 => Q (!c) H1
theorem pw_and1 (ha : PT X a tA) : PW X (.BoolOp .And [a] pos) tA := by
 (first | refine ⟨?_⟩ | skip); intro wh pins s σ H Q I h
 refine isTrue_and (thn (ha pins s σ H Q I h) fun c s1 e => ?_)
 cases c with
 | true => exact isTrue_and_nil e
 | false => exact e
theorem pw_or1 (ha : PT X a tA) : PW X (.BoolOp .Or [a] pos) tA := by
 (first | refine ⟨?_⟩ | skip); intro wh pins s σ H Q I h
 refine isTrue_or (thn (ha pins s σ H Q I h) fun c s1 e => ?_)
 cases c with
 | false => exact isTrue_or_nil e
 | true => exact e
theorem pw_and (ha : PT X a tA) (hb : PW X (.BoolOp .And (b :: rest) pos) tB') : PW X (.BoolOp .And (a :: b :: rest) pos) (tAnd tA tB') := by
 (first | refine ⟨?_⟩ | skip); intro wh pins s σ H Q I h
 refine isTrue_and (thn (ha pins s σ H _ I h) fun c s1 ⟨H1, I1, q1⟩ => ?_)
 cases c with
 | true => exact hb wh pins s1 σ H1 Q I1 q1
 | false => exact ⟨H1, I1, q1⟩
theorem pw_or (ha : PT X a tA) (hb : PW X (.BoolOp .Or (b :: rest) pos) tB') : PW X (.BoolOp .Or (a :: b :: rest) pos) (tOr tA tB') := by
 (first | refine ⟨?_⟩ | skip); intro wh pins s σ H Q I h
 refine isTrue_or (thn (ha pins s σ H _ I h) fun c s1 ⟨H1, I1, q1⟩ => ?_)
 cases c with
 | true => exact ⟨H1, I1, q1⟩
 | false => exact hb wh pins s1 σ H1 Q I1 q1
theorem pt_not (ha : PT X a tA) : PT X (.UnaryOp .Not a pos) (tNot tA) := by
 (first | refine ⟨?_⟩ | skip); intro pins s σ H Q I h
 exact isTrue_not (ha pins s σ H (fun c H1 => Q (!c) H1) I h)
def tIf (t : TT) (ta tb : TE) : TE := fun σ H Q => t σ H fun c H1 => if c = true then ta σ H1 Q else tb σ H1 Q
theorem pe_ifExp {c : Expr} (hc : PT X c tA) (ha : PE X a ta) (hb : PE X b tb) : PE X (.IfExp c a b pos) (tIf tA ta tb) := by
 (first | refine ⟨?_⟩ | skip); intro pins s σ H Q I h
 refine wpAny_IfExp (thn (hc pins s σ H _ I h) fun d s1 ⟨H1, I1, q1⟩ => ?_)
 cases d with
 | true => exact ha pins s1 σ H1 Q I1 q1
 | false => exact hb pins s1 σ H1 Q I1 q1
end
end L2
namespace L2
open PySem PySem.Spec PyProof.Rows
def SqL (K : PySem.W.Frag) (H : Hp) (a : Addr) (xs : List V) : Prop :=
 Rd H a (.lst xs) \/
  ∃ (o : Obj) (its : Array Value) (n : Nat), K.lookup a = some o /\ o.cls = .type "list" /\ o.dict = none /\ o.data = .seq its n /\ its.size <= sizeLine /\ Vals xs its.toList
def SqT (K : PySem.W.Frag) (H : Hp) (a : Addr) (xs : List V) : Prop :=
 Rd H a (.tup xs) \/
  ∃ (o : Obj) (its : Array Value) (n : Nat), K.lookup a = some o /\ o.cls = .type "tuple" /\ o.data = .seq its n /\ its.size <= sizeLine /\ Vals xs its.toList
def absV : Value -> Option V
 | .none => some .non
 | .bool b => some (.bl b)
 | .int i _ => some (.int i)
 | .str x _ => some (.str x)
 | .bytes b _ => some (.byt b)
 | .float b _ => some (.flt b)
 | .ref a => some (.ref a)
 | .type n => some (.ty n)
 | _ => none
theorem RelV.abs {x : V} {u : Value} (r : RelV x u) : absV u = some x := by
 cases x with
 | non => cases r; rfl
 | bl _ => cases r; rfl
 | int _ => obtain ⟨t, rfl⟩ := r; rfl
 | str _ => obtain ⟨t, rfl⟩ := r; rfl
 | byt _ => obtain ⟨t, rfl⟩ := r; rfl
 | flt _ => obtain ⟨t, rfl⟩ := r; rfl
 | ref _ => cases r; rfl
 | ty _ => cases r; rfl
theorem RelV.inj {x y : V} {u : Value} (r : RelV x u) (q : RelV y u) : x = y := Option.some.inj (r.abs.symm.trans q.abs)
theorem Vals.inj : ∀ {xs ys : List V} {us : List Value}, Vals xs us -> Vals ys us -> xs = ys
 | _, _, _, .nil, .nil => rfl
 | _, _, _, .cons r t, .cons r' t' => by rw [r.inj r', Vals.inj t t']
section
variable {X : Cx} {pins : List (Addr × Obj)} {σ : St} {H : Hp} {s : Shared} {a : Addr} {xs ys : List V}
theorem SqL.of {K : PySem.W.Frag} (h : H a = some (.lst xs)) : SqL K H a xs := .inl (.inl h)
theorem SqT.of {K : PySem.W.Frag} (h : H a = some (.tup xs)) : SqT K H a xs := .inl (.inl h)
theorem Inv.list (I : Inv X pins σ H s) (h : SqL X.K H a xs) : ∃ its : List Value, Vals xs its /\ PlainL s.heap a its.toArray /\ xs.length <= sizeLine := by
 rcases h with h | ⟨o, its, n, hk, hc, hd, hs, hz, r⟩
 ·obtain ⟨z, its, n, r, e⟩ := h.ok I.hok
  exact ⟨its, r, ⟨_, n, e, rfl, rfl, rfl⟩, z⟩
 ·refine ⟨its.toList, r, ⟨o, n, I.kIn a o hk, hc, hd, by simpa using hs⟩, ?_⟩
  have e := r.length
  simp only [Array.length_toList] at e
  omega
theorem Inv.tuple (I : Inv X pins σ H s) (h : SqT X.K H a xs) : ∃ its : List Value, Vals xs its /\ IsTup s.heap a its.toArray /\ xs.length <= sizeLine := by
 rcases h with h | ⟨o, its, n, hk, hc, hs, hz, r⟩
 ·obtain ⟨z, its, r, p⟩ := h.ok I.hok
  exact ⟨its, r, p, z⟩
 ·refine ⟨its.toList, r, ⟨o, I.kIn a o hk, hc, n, by simpa using hs⟩, ?_⟩
  have e := r.length
  simp only [Array.length_toList] at e
  omega
theorem Inv.list_inj (I : Inv X pins σ H s) (h : SqL X.K H a xs) (h' : SqL X.K H a ys) : xs = ys := by
 obtain ⟨its, r, ⟨o, n, e, _, _, d⟩, _⟩ := I.list h
 obtain ⟨its', r', ⟨o', n', e', _, _, d'⟩, _⟩ := I.list h'
 rw [e] at e'; cases e'
 rw [d] at d'
 injection d' with d1 _
 have : its = its' := by simpa using congrArg Array.toList d1
 subst this
 exact r.inj r'
theorem Inv.tuple_inj (I : Inv X pins σ H s) (h : SqT X.K H a xs) (h' : SqT X.K H a ys) : xs = ys := by
 obtain ⟨its, r, ⟨o, e, _, n, d⟩, _⟩ := I.tuple h
 obtain ⟨its', r', ⟨o', e', _, n', d'⟩, _⟩ := I.tuple h'
 rw [e] at e'; cases e'
 rw [d] at d'
 injection d' with d1 _
 have : its = its' := by simpa using congrArg Array.toList d1
 subst this
 exact r.inj r'
end
abbrev Cx.wish (X : Cx) (E : Value -> Shared -> Prop) : Cx := { X with xe := E }
abbrev Cx.nox (X : Cx) : Cx := X.wish fun _ _ => False
theorem Cx.Ok.wish {X : Cx} (ok : X.Ok) (E : Value -> Shared -> Prop) : (X.wish E).Ok :=
 ⟨ok.mod, ok.kind, ok.glob, ok.blt, ok.above, ok.inj, ok.has, ok.cab, ok.hd, ok.frames, ok.stk, ok.exf, ok.bs, ok.bsz, ok.noex, ok.exfs, ok.funs, ok.frf⟩
theorem Cx.Ok.unwish {X : Cx} {E : Value -> Shared -> Prop} (ok : (X.wish E).Ok) : X.Ok :=
 ⟨ok.mod, ok.kind, ok.glob, ok.blt, ok.above, ok.inj, ok.has, ok.cab, ok.hd, ok.frames, ok.stk, ok.exf, ok.bs, ok.bsz, ok.noex, ok.exfs, ok.funs, ok.frf⟩
section
variable {X : Cx} {pins : List (Addr × Obj)} {σ : St} {H : Hp} {s : Shared} {E : Value -> Shared -> Prop}
theorem Inv.wish (I : Inv X pins σ H s) (E : Value -> Shared -> Prop) : Inv (X.wish E) pins σ H s := ⟨I.ok.wish E, I.os, I.bare, I.base, I.loc, I.cell, I.free, I.freeC, I.pin, I.hok, I.len⟩
theorem Inv.unwish (I : Inv (X.wish E) pins σ H s) : Inv X pins σ H s := ⟨I.ok.unwish, I.os, I.bare, I.base, I.loc, I.cell, I.free, I.freeC, I.pin, I.hok, I.len⟩
theorem SP.unwish {D : Ends} {f : Flow} {s' : Shared} (h : SP (X.wish E) pins D f s') : SP X pins D f s' := by
 cases f with
 | next => obtain ⟨σ', H', I, q⟩ := h; exact ⟨σ', H', I.unwish, q⟩
 | brk => obtain ⟨σ', H', I, q⟩ := h; exact ⟨σ', H', I.unwish, q⟩
 | cont => obtain ⟨σ', H', I, q⟩ := h; exact ⟨σ', H', I.unwish, q⟩
 | ret u => obtain ⟨v, σ', H', I, r, q⟩ := h; exact ⟨v, σ', H', I.unwish, r, q⟩
theorem PSs.nox {st : List Stmt} {t : TS} (h : PSs X.nox st t) : PSs X st t := .mk <| fun pins s σ H D I hw =>
 wpAny_mono (h pins s σ H D (I.wish _) hw) (fun _ _ q => q.unwish) fun _ _ z => False.elim z
end
section
variable {X : Cx} {st : Stmt} {rest : List Stmt} {t u : TS} {e : Expr} {te : TE} {pos : Pos}
def tNext : TS := fun D σ H => D.nx σ H
def tSeq (t u : TS) : TS := fun D σ H => t { D with nx := u D } σ H
theorem pss_nil : PSs X [] tNext := .mk <| fun _ _ σ H _ I h => wpAny_execs_nil ⟨σ, H, I, h⟩
theorem pss_cons (h1 : PS X st t) (h2 : PSs X rest u) : PSs X (st :: rest) (tSeq t u) := by
 (first | refine ⟨?_⟩ | skip); intro pins s σ H D I h
 refine wpAny_execs_cons (thn (h1 pins s σ H { D with nx := u D } I h) fun f s1 q => ?_)
 cases f with
 | next =>
  obtain ⟨σ', H', I', q⟩ := q
  exact h2 pins s1 σ' H' D I' q
 | ret v => exact q
 | brk => exact q
 | cont => exact q
theorem pss_one (h1 : PS X st t) : PSs X [st] t := by
 (first | refine ⟨?_⟩ | skip); intro pins s σ H D I h
 refine wpAny_execs_cons (thn (h1 pins s σ H D I h) fun f s1 q => ?_)
 cases f with
 | next => exact wpAny_execs_nil q
 | ret v => exact q
 | brk => exact q
 | cont => exact q
theorem Inv.quiet {pins : List (Addr × Obj)} {σ : St} {H : Hp} {s : Shared} (I : Inv X pins σ H s) : interactive X.env = false := by simp [interactive, I.ok.kind]
def tDrop (te : TE) : TS := fun D σ H => te σ H fun _ H1 => D.nx σ H1
theorem ps_expr (he : PE X e te) (hs : swapsWith e none pos.line X.env = pure false := by rfl) : PS X (.Expr e pos) (tDrop te) := by
 (first | refine ⟨?_⟩ | skip); intro pins s σ H D I h
 exact wpAny_Expr_any (thn (he pins s σ H _ I h) fun v s1 ⟨x, H1, I1, r1, q1⟩ => ⟨σ, H1, I1, q1⟩) I.quiet hs
def tRet (te : TE) : TS := fun D σ H => te σ H D.rt
theorem ps_ret (he : PE X e te) : PS X (.Return (some e) pos) (tRet te) := by
 (first | refine ⟨?_⟩ | skip); intro pins s σ H D I h
 exact wpAny_Return_some (thn (he pins s σ H _ I h) fun v s1 ⟨x, H1, I1, r1, q1⟩ => ⟨x, σ, H1, I1, r1, q1⟩)
def tIfS (c : TT) (t u : TS) : TS := fun D σ H => c σ H fun b H1 => if b = true then t D σ H1 else u D σ H1
theorem ps_if {c : Expr} {a b : List Stmt} {tc : TT} (hc : PT X c tc) (ha : PSs X a t) (hb : PSs X b u) : PS X (.If c a b pos) (tIfS tc t u) := by
 (first | refine ⟨?_⟩ | skip); intro pins s σ H D I h
 refine wpAny_If (thn (hc pins s σ H _ I h) fun d s1 ⟨H1, I1, q1⟩ => ?_)
 cases d with
 | true => exact ha pins s1 σ H1 D I1 q1
 | false => exact hb pins s1 σ H1 D I1 q1
end
abbrev TG := V -> St -> Hp -> (St -> Hp -> Prop) -> Prop
abbrev TGs := List V -> St -> Hp -> (St -> Hp -> Prop) -> Prop
def PG (X : Cx) (target : Expr) (t : TG) : Prop :=
 ∀ (pins : List (Addr × Obj)) (s : Shared) (σ : St) (H : Hp) (v : V) (u : Value) (Q : St -> Hp -> Prop), Inv X pins σ H s -> RelV v u -> t v σ H Q ->
  wpAny (model X.prog X.w) X.A (assign target X.env u) (fun _ s' => ∃ σ' H', Inv X pins σ' H' s' /\ Q σ' H') X.xe s
def PGs (X : Cx) (ts : List Expr) (t : TGs) : Prop :=
 ∀ (pins : List (Addr × Obj)) (s : Shared) (σ : St) (H : Hp) (vs : List V) (us : List Value) (Q : St -> Hp -> Prop), Inv X pins σ H s -> Vals vs us -> t vs σ H Q ->
  wpAny (model X.prog X.w) X.A (assignInOrder ((assignEach ts X.env).map (·.2)) us) (fun _ s' => ∃ σ' H', Inv X pins σ' H' s' /\ Q σ' H') X.xe s
abbrev TSet := V -> V -> V -> Hp -> (Hp -> Prop) -> Prop
def PSet (X : Cx) (t : TSet) : Prop :=
 ∀ (pins : List (Addr × Obj)) (s : Shared) (σ : St) (H : Hp) (o i v : V) (ov iv u : Value) (Q : Hp -> Prop), Inv X pins σ H s -> RelV o ov -> RelV i iv -> RelV v u -> t o i v H Q ->
  wpAny (model X.prog X.w) X.A (setItem ov iv u) (fun _ s' => ∃ H', Inv X pins σ H' s' /\ Q H') X.xe s
section
variable {X : Cx} {pos : Pos}
def gName (i : Nat) : TG := fun v σ H Q => Q (σ.set i (some v)) H
theorem pg_name {i : Nat} {x : Str} (hN : X.N.Nodup) (hi : X.N[i]? = some x) (hx : Loc X.env.scope x) (hf : X.fn x = true \/ X.env.scope.names.lookup x = some .local := by first | exact .inl rfl | exact .inr rfl | assumption) : PG X (.Name x pos) (gName i) := by
 (first | refine ⟨?_⟩ | skip); intro pins s σ H v u Q I r h
 exact wpAny_assign_Name (store_ok I hN hi hx r (fun s' I' => ⟨_, H, I', h⟩) hf)
def gNil : TGs := fun vs σ H Q => vs = [] /\ Q σ H
def gCons (t : TG) (u : TGs) : TGs := fun vs σ H Q => ∃ v r, vs = v :: r /\ t v σ H fun σ' H' => u r σ' H' Q
theorem pgs_nil : PGs X [] gNil := by
 (first | refine ⟨?_⟩ | skip); intro pins s σ H vs us Q I r h
 obtain ⟨e, h⟩ := h
 subst e
 cases r
 exact assignInOrder_nil ⟨σ, H, I, h⟩
theorem pgs_cons {e : Expr} {es : List Expr} {t : TG} {u : TGs} (h1 : PG X e t) (h2 : PGs X es u)
  (hs : (assignEach (e :: es) X.env).map (·.2) = assign e X.env :: (assignEach es X.env).map (·.2) := by rfl) : PGs X (e :: es) (gCons t u) := by
 (first | refine ⟨?_⟩ | skip); intro pins s σ H vs us Q I r h
 obtain ⟨v, vr, e1, h⟩ := h
 subst e1
 cases r with
 | cons r rr =>
  rw [hs]
  refine assignInOrder_cons (thn (h1 pins s σ H _ _ _ I r h) fun _ s1 ⟨σ1, H1, I1, q1⟩ => ?_)
  exact h2 pins s1 σ1 H1 _ _ Q I1 rr q1
def gTup (K : PySem.W.Frag) (n : Nat) (t : TGs) : TG := fun v σ H Q => ∃ a xs, v = .ref a /\ SqT K H a xs /\ xs.length = n /\ t xs σ H Q
theorem pg_tup {es : List Expr} {k : Nat} {t : TGs} {n : Nat} (hc : X.calm = true) (h : PGs X es t)
  (hn : (assignEach es X.env).length = n := by rfl) (hst : (assignEach es X.env).findIdx? (·.1) = none := by rfl) : PG X (.Tuple es k pos) (gTup X.K n t) := by
 (first | refine ⟨?_⟩ | skip); intro pins s σ H v u Q I r hw
 obtain ⟨a, xs, e1, hq, hl, hw⟩ := hw
 subst e1
 cases r
 obtain ⟨its, rv, ht, hz⟩ := I.tuple hq
 refine assign_Tuple_tuple (I.ok.hd hc) ht (by simp [hn, ← hl, rv.length]) hst fun h' hx => ?_
 have I1 : Inv X pins σ H { s with heap := h' } := I.kept (t' := s.toks) fun b o e => hx b o (Nat.ne_of_lt (Heap.lt_size e)) e
 exact h pins _ σ H xs _ Q I1 (by simpa using rv) hw
def gSub (to ti : TE) (t : TSet) : TG := fun v σ H Q => to σ H fun o H1 => ti σ H1 fun i H2 => t o i v H2 fun H3 => Q σ H3
theorem pg_sub {o i : Expr} {to ti : TE} {t : TSet} (ho : PE X o to) (hi : PE X i ti) (hs : PSet X t)
  (ha : ∀ v, assign (.Subscript o i pos) X.env v = (do
   let ov ← holding [v] (eval o X.env)
   let iv ← holding [v, ov] (eval i X.env)
   standAt pos
   holding [v, ov, iv] (setItem ov iv v)
   release [v, ov, iv] []) := by intro _; rfl) : PG X (.Subscript o i pos) (gSub to ti t) := by
 (first | refine ⟨?_⟩ | skip); intro pins s σ H v u Q I r h
 rw [ha]
 refine wpAny_bind (wpAny_holding (thn (ho pins s σ H _ I h) fun ov s1 ⟨x, H1, I1, r1, q1⟩ => ?_))
 refine wpAny_bind (wpAny_holding (thn (hi pins s1 σ H1 _ I1 q1) fun iv s2 ⟨y, H2, I2, r2, q2⟩ => ?_))
 refine wpAny_bind (wpAny_standAt (wpAny_bind (wpAny_holding (thn (hs pins s2 σ H2 x y v ov iv u _ I2 r1 r2 r q2) fun _ s3 ⟨H3, I3, q3⟩ => ?_))))
 exact wpAny_release ⟨σ, H3, I3, q3⟩
def tAsg (te : TE) (g : TG) : TS := fun D σ H => te σ H fun x H1 => g x σ H1 D.nx
theorem ps_asg {tg e : Expr} {te : TE} {g : TG} (he : PE X e te) (hg : PG X tg g) (hs : swapsWithSole [tg] e pos.line X.env = pure false := by rfl) (hw : swappedStores [tg] e X.env = pure none := by rfl)
  (h1 : (assignEach [tg] X.env).map (·.2) = [assign tg X.env] := by rfl) : PS X (.Assign [tg] e pos) (tAsg te g) := by
 (first | refine ⟨?_⟩ | skip); intro pins s σ H D I h
 refine wpAny_Assign_stores (thn (he pins s σ H _ I h) fun v s1 ⟨x, H1, I1, r1, q1⟩ => ?_) hs hw
 rw [h1]
 exact thn (hg pins s1 σ H1 x v _ I1 r1 q1) fun _ s2 q => q
theorem ps_set {i : Nat} {x : Str} {e : Expr} {te : TE} {pos' : Pos} (hN : X.N.Nodup) (hi : X.N[i]? = some x) (hx : Loc X.env.scope x) (he : PE X e te) (hs : swapsWith e (some (.Name x pos')) pos.line X.env = pure false := by rfl) (hf : X.fn x = true \/ X.env.scope.names.lookup x = some .local := by first | exact .inl rfl | exact .inr rfl | assumption) :
  PS X (.Assign [.Name x pos'] e pos) (tAsg te (gName i)) := by
 (first | refine ⟨?_⟩ | skip); intro pins s σ H D I h
 refine wpAny_Assign_Name (thn (he pins s σ H _ I h) fun v s1 ⟨y, H1, I1, r1, q1⟩ => ?_) hs
 exact store_ok I1 hN hi hx r1 (fun s2 I2 => ⟨_, H1, I2, q1⟩) hf
end
structure It where
 go : Nat -> Hp -> Prop
 yld : Nat -> Hp -> V -> Hp -> Prop
 stop : Nat -> Hp -> Prop
def FpOk (X : Cx) (pins : List (Addr × Obj)) (H : Hp) (b : Addr) : Prop :=
 H b = none /\ b ≠ X.env.locals /\ b ∉ X.fs /\ (b ∈ X.ex \/ X.s₀.heap.objs.size <= b) /\ (∀ x c, X.env.cells.lookup x = some c -> c ≠ b) /\ ∀ p ∈ X.pn ++ pins, p.1 ≠ b
theorem Inv.fpOk {X : Cx} {pins : List (Addr × Obj)} {σ : St} {H H' : Hp} {s : Shared} {b : Addr} (I : Inv X pins σ H s) (hb : s.heap.objs.size <= b) (hn : H' b = none) : FpOk X pins H' b := by
 refine ⟨hn, Nat.ne_of_gt (Nat.lt_of_lt_of_le I.lt hb), I.nofs hb, .inr (Nat.le_trans I.sz hb), fun x c e z => ?_, fun p hp z => ?_⟩
 ·obtain ⟨v, q⟩ := I.cell x c e
  exact absurd (Nat.lt_of_lt_of_le q.lt (by rw [z]; exact hb)) (Nat.lt_irrefl _)
 ·exact absurd (Nat.lt_of_lt_of_le (Heap.lt_size (I.pin p hp).1) (by rw [z]; exact hb)) (Nat.lt_irrefl _)
structure Turn (P : Program) (w : World) (K : PySem.W.Frag) (tg : Expr) (J : It) (fp : List Addr) (it : Addr) (tn : Nat -> Heap -> Prop) : Prop where
 mem : it ∈ fp
 obj : ∀ i h, tn i h -> ∀ b ∈ fp, ∃ o, h.get? b = some o /\ ∀ v, o.data ≠ .cell v
 keep : ∀ i h h', tn i h -> (∀ b ∈ fp, ∀ o, h.get? b = some o -> h'.get? b = some o) -> tn i h'
 item : ∀ (X : Cx), X.prog = P -> X.w = w -> X.K = K -> X.calm = true -> ∀ (i : Nat) (pins : List (Addr × Obj)) (s : Shared) (σ : St) (H : Hp) (E : Value -> Shared -> Prop), Inv X pins σ H s -> (∀ b ∈ fp, FpOk X pins H b) -> tn i s.heap -> J.go i H ->
  wpAny (model P w) X.A (pyNext (.ref it)) (fun r s1 => ∃ u, r = some u /\
   wpAny (model P w) X.A (letOwnedTupleGo tg (.ref it) u) (fun _ s2 => ∃ x H', Inv X pins σ H' s2 /\ RelV x u /\ J.yld i H x H' /\ tn (i + 1) s2.heap /\ ∀ b ∈ fp, H' b = none) E s1) E s
 done : ∀ (X : Cx), X.prog = P -> X.w = w -> X.K = K -> X.calm = true -> ∀ (i : Nat) (pins : List (Addr × Obj)) (s : Shared) (σ : St) (H : Hp) (E : Value -> Shared -> Prop), Inv X pins σ H s -> (∀ b ∈ fp, FpOk X pins H b) -> tn i s.heap -> J.stop i H ->
  wpAny (model P w) X.A (pyNext (.ref it)) (fun r s1 => r = none /\ Inv X pins σ H s1) E s
 self : ∀ (A : Around) (i : Nat) (s : Shared) (Q : Value -> Shared -> Prop) (E : Value -> Shared -> Prop), tn i s.heap -> Q (.ref it) s -> wpAny (model P w) A (pyIter (.ref it)) Q E s
abbrev TI := St -> Hp -> (It -> Hp -> Prop) -> Prop
def PIE (X : Cx) (pins : List (Addr × Obj)) (σ : St) (tg : Expr) (R : It -> Hp -> Prop) (itv : Value) (s2 : Shared) : Prop :=
 ∃ (it : Addr) (fp : List Addr) (tn : Nat -> Heap -> Prop) (J : It) (H' : Hp), itv = .ref it /\ Inv X pins σ H' s2 /\ Turn X.prog X.w X.K tg J fp it tn /\ tn 0 s2.heap /\ (∀ b ∈ fp, FpOk X pins H' b) /\ R J H'
def PI (X : Cx) (tg iter : Expr) (wi : TI) : Prop :=
 ∀ (pins : List (Addr × Obj)) (s : Shared) (σ : St) (H : Hp) (R : It -> Hp -> Prop), Inv X pins σ H s -> wi σ H R ->
  wpAny (model X.prog X.w) X.A (eval iter X.env) (fun v s1 => wpAny (model X.prog X.w) X.A (pyIter v) (PIE X pins σ tg R) X.xe s1) X.xe s
theorem go_of {M : Model} {A : Around} {E : Value -> Shared -> Prop} {s : Shared} {tg : Expr} {it : Addr} {u : Value} {o : Obj} {n : String} {vs : Array Value} {Q : Unit -> Shared -> Prop} (ho : s.heap.get? it = some o) (hc : o.cls = .type n) (hd : o.data = .fields vs)
  (hn : ["enumerate", "zip", "dict_itemiterator", "dict_reverseitemiterator", "odict_iterator", "itertools.zip_longest", "itertools.pairwise"].contains n = false) (hQ : Q () s) : wpAny M A (letOwnedTupleGo tg (.ref it) u) Q E s := by
 unfold letOwnedTupleGo
 cases tg <;> first
  | exact wpAny_pure hQ
  | (cases u <;> first
    | exact wpAny_pure hQ
    | (refine wpAny_bind (wpAny_load ho ?_)
       rw [hc, hd]
       show wpAny M A (if (["enumerate", "zip", "dict_itemiterator", "dict_reverseitemiterator", "odict_iterator", "itertools.zip_longest", "itertools.pairwise"].contains n && vs[0]? == some (rawInt _)) = true then _ else _) Q E s
       rw [if_neg (by intro h; rw [hn, Bool.false_and] at h; cases h)]
       exact wpAny_pure hQ))
def Itl (K : PySem.W.Frag) (a : Addr) : It :=
 ⟨fun i H => ∃ xs x, SqL K H a xs /\ xs[i]? = some x, fun i H x H' => H' = H /\ ∀ xs, SqL K H a xs -> xs[i]? = some x, fun i H => ∃ xs, SqL K H a xs /\ xs.length <= i⟩
def Itt (K : PySem.W.Frag) (a : Addr) : It :=
 ⟨fun i H => ∃ xs x, SqT K H a xs /\ xs[i]? = some x, fun i H x H' => H' = H /\ ∀ xs, SqT K H a xs -> xs[i]? = some x, fun i H => ∃ xs, SqT K H a xs /\ xs.length <= i⟩
def Itr (lo : Int) (n : Nat) : It := ⟨fun i _ => i < n, fun i H x H' => H' = H /\ x = .int (lo + i), fun i _ => n <= i⟩
theorem turn_list {P : Program} {w : World} {K : PySem.W.Frag} {tg : Expr} (a it : Addr) : Turn P w K tg (Itl K a) [it] it (fun i h => h.IsListIter it a i) where
 mem := by simp
 obj := fun i h st b hb => by
  have e : b = it := by simpa using hb
  subst e
  obtain ⟨o, e, c, d⟩ := st
  exact ⟨o, e, fun v z => by rw [d] at z; cases z⟩
 keep := fun i h h' st k => st.at fun o e => k it (by simp) o e
 item := by
  intro X hP hw hK hc i pins s σ H E I hf st hg
  subst hP hw hK
  obtain ⟨xs, x, hq, hx⟩ := hg
  obtain ⟨its, rv, p, hz⟩ := I.list hq
  obtain ⟨u, hu, ru⟩ := rv.get hx
  obtain ⟨f0, f1, f2, f3, f4, f5⟩ := hf it (by simp)
  refine wpAny_pyNext_list_item st p.isList (x := u) (by simpa using hu) fun h' st' sb => ?_
  have I1 : Inv X pins σ H { s with heap := h' } := I.turned (t' := s.toks) (fun b o hb e => (sb.2 b hb).trans e) f0 f1 f3 f4 f5
  obtain ⟨o, e, c, d⟩ := id st'
  exact ⟨u, rfl, go_of (s := { s with heap := h' }) e c d (by decide) ⟨x, H, I1, ru, ⟨rfl, fun ys hy => by rw [I.list_inj hy hq]; exact hx⟩, st', fun b hb => (hf b hb).1⟩⟩
 done := by
  intro X hP hw hK hc i pins s σ H E I hf st hg
  subst hP hw hK
  obtain ⟨xs, hq, hx⟩ := hg
  obtain ⟨its, rv, p, hz⟩ := I.list hq
  obtain ⟨f0, f1, f2, f3, f4, f5⟩ := hf it (by simp)
  have hl := rv.length
  exact wpAny_pyNext_list_end (I.ok.hd hc) st p.isList (by simp; omega) fun h' eb => ⟨rfl, I.turned (t' := s.toks) (fun b o hb e => eb b o hb e) f0 f1 f3 f4 f5⟩
 self := fun _ _ _ _ _ st h => wpAny_pyIter_listiter st h
theorem turn_tuple {P : Program} {w : World} {K : PySem.W.Frag} {tg : Expr} (a it : Addr) : Turn P w K tg (Itt K a) [it] it (fun i h => h.IsTupleIter it a i) where
 mem := by simp
 obj := fun i h st b hb => by
  have e : b = it := by simpa using hb
  subst e
  obtain ⟨o, e, c, d⟩ := st
  exact ⟨o, e, fun v z => by rw [d] at z; cases z⟩
 keep := fun i h h' st k => st.at fun o e => k it (by simp) o e
 item := by
  intro X hP hw hK hc i pins s σ H E I hf st hg
  subst hP hw hK
  obtain ⟨xs, x, hq, hx⟩ := hg
  obtain ⟨its, rv, p, hz⟩ := I.tuple hq
  obtain ⟨u, hu, ru⟩ := rv.get hx
  obtain ⟨f0, f1, f2, f3, f4, f5⟩ := hf it (by simp)
  refine wpAny_pyNext_tuple_item st (show s.heap.IsTuple a its.toArray from p) (x := u) (by simpa using hu) fun h' st' sb => ?_
  have I1 : Inv X pins σ H { s with heap := h' } := I.turned (t' := s.toks) (fun b o hb e => (sb.2 b hb).trans e) f0 f1 f3 f4 f5
  obtain ⟨o, e, c, d⟩ := id st'
  exact ⟨u, rfl, go_of (s := { s with heap := h' }) e c d (by decide) ⟨x, H, I1, ru, ⟨rfl, fun ys hy => by rw [I.tuple_inj hy hq]; exact hx⟩, st', fun b hb => (hf b hb).1⟩⟩
 done := by
  intro X hP hw hK hc i pins s σ H E I hf st hg
  subst hP hw hK
  obtain ⟨xs, hq, hx⟩ := hg
  obtain ⟨its, rv, p, hz⟩ := I.tuple hq
  obtain ⟨f0, f1, f2, f3, f4, f5⟩ := hf it (by simp)
  have hl := rv.length
  exact wpAny_pyNext_tuple_end (I.ok.hd hc) st (show s.heap.IsTuple a its.toArray from p) (by simp; omega) fun h' eb => ⟨rfl, I.turned (t' := s.toks) (fun b o hb e => eb b o hb e) f0 f1 f3 f4 f5⟩
 self := fun _ _ _ _ _ st h => wpAny_pyIter_tupleiter st h
theorem turn_range {P : Program} {w : World} {K : PySem.W.Frag} {tg : Expr} (it : Addr) (lo : Int) (n : Nat) : Turn P w K tg (Itr lo n) [it] it (fun i h => IsRangeIter h it (lo + (i : Nat) * 1) ((n : Int) - (i : Nat)) 1) where
 mem := by simp
 obj := fun i h st b hb => by
  have e : b = it := by simpa using hb
  subst e
  exact ⟨_, st, fun v z => by
   have z' : Data.fields _ = Data.cell v := z
   cases z'⟩
 keep := fun i h h' st k => k it (by simp) _ st
 item := by
  intro X hP hw hK hc i pins s σ H E I hf st hg
  subst hP hw hK
  obtain ⟨f0, f1, f2, f3, f4, f5⟩ := hf it (by simp)
  have W := Walks.range (prog := X.prog) (w := X.w) (I.ok.hd hc) it lo 1 n
  refine W.item i s _ _ hg st fun v h' tk hv st' kk => ?_
  obtain ⟨t, rfl⟩ := hv
  have I1 : Inv X pins σ H { s with heap := h', toks := tk } := I.turned (fun b o hb e => kk b o (by simpa using hb) e) f0 f1 f3 f4 f5
  refine ⟨_, rfl, go_of (s := { s with heap := h', toks := tk }) (n := "range_iterator") st' rfl rfl (by decide) ⟨.int (lo + i), H, I1, ⟨t, ?_⟩, ⟨rfl, rfl⟩, st', fun b hb => (hf b hb).1⟩⟩
  rw [Int.mul_one]
 done := by
  intro X hP hw hK hc i pins s σ H E I hf st hg
  subst hP hw hK
  obtain ⟨f0, f1, f2, f3, f4, f5⟩ := hf it (by simp)
  exact wpAny_pyNext_range_end (I.ok.hd hc) st (by have : n <= i := hg; omega) fun h' eb => ⟨rfl, I.turned (t' := s.toks) (fun b o hb e => eb b o hb e) f0 f1 f3 f4 f5⟩
 self := fun _ _ _ _ _ st h => wpAny_pyIter_rangeiter st h
end L2
namespace L2
open PySem PySem.Spec PyProof.Rows
section
variable {X : Cx} {tg : Expr}
theorem range_it {pins : List (Addr × Obj)} {σ : St} {H : Hp} {s : Shared} {R : It -> Hp -> Prop} {E : Value -> Shared -> Prop} {lo hi : Int} {t u v : Tok} {tk : Nat} (I : Inv X pins σ H s) (h1 : -(2 ^ 62) <= lo) (h2 : lo < 2 ^ 62) (h3 : -(2 ^ 62) <= hi) (h4 : hi < 2 ^ 62)
  (q : R (Itr lo (hi - lo).toNat) H) : wpAny (model X.prog X.w) X.A (pyIter (.ref s.heap.objs.size)) (PIE X pins σ tg R) E { s with heap := s.heap.push { cls := .type "range", data := .fields #[.int lo t, .int hi u, .int 1 v] }, toks := tk } := by
 refine wpAny_pyIter_range (IsRange.new ..) (small_one h1 h2 h3 h4) ?_
 have I1 : Inv X pins σ H { s with heap := s.heap.push { cls := .type "range", data := .fields #[.int lo t, .int hi u, .int 1 v] }, toks := tk } := I.kept fun b o e => Heap.get?_push_of_some _ e
 refine ⟨(s.heap.push { cls := .type "range", data := .fields #[.int lo t, .int hi u, .int 1 v] }).objs.size, [(s.heap.push { cls := .type "range", data := .fields #[.int lo t, .int hi u, .int 1 v] }).objs.size], _, _, H, rfl,
  I1.kept (t' := tk) fun b o e => Heap.get?_push_of_some _ e, turn_range _ lo (hi - lo).toNat, ?_, fun b hb => ?_, q⟩
 ·have e1 : lo + ((0 : Nat) : Int) * 1 = lo := by simp
  have e2 : (((hi - lo).toNat : Nat) : Int) - ((0 : Nat) : Int) = Builtin.Range.rangeSize lo hi 1 := by rw [rangeSize_one]; split <;> omega
  show IsRangeIter _ _ (lo + ((0 : Nat) : Int) * 1) ((((hi - lo).toNat : Nat) : Int) - ((0 : Nat) : Int)) 1
  rw [e1, e2]
  exact Heap.get?_push_size _ rfl
 ·have e : b = (s.heap.push { cls := .type "range", data := .fields #[.int lo t, .int hi u, .int 1 v] }).objs.size := by simpa using hb
  subst e
  exact I1.fpOk (Nat.le_refl _) (I1.hok.fresh (Nat.le_refl _))
def iRng1 (ta : TA) : TI := fun σ H R => ta σ H fun vs H1 => ∃ j : Int, vs = [.int j] /\ -(2 ^ 62) <= j /\ j < 2 ^ 62 /\ R (Itr 0 j.toNat) H1
theorem pi_range1 {a : Expr} {ta : TA} {p pos : Pos} (hg : Gl X "range") (hm : X.mg "range" = none) (ha : PA X [a] ta) (hs : starEach [a] X.env = [(false, eval a X.env)] := by rfl) : PI X tg (.Call (.Name "range" p) [a] [] pos) (iRng1 ta) := by
 (first | refine ⟨?_⟩ | skip); intro pins s σ H R I h
 refine Call_ (ld_blt I hg hm boot_range (PyProof.Rows.callWith_type1 (thn (ha pos pins s σ H _ I h) fun us s1 ⟨vs, H1, I1, r1, q1⟩ => ?_) hs rfl))
 obtain ⟨j, e, q1, q2, q⟩ := q1
 subst e
 cases r1 with
 | cons r rr =>
  cases rr
  obtain ⟨t, rfl⟩ := r
  exact call_range_1 (range_it I1 (by omega) (by omega) q1 q2 (by simpa using q))
def tFor (wi : TI) (g : TG) (tb : TS) : TS := fun D σ H => wi σ H fun J H1 => ∃ W : Nat -> Nat -> St -> Hp -> Prop, (∃ m, W 0 m σ H1) /\ ∀ i m σ H, W i m σ H ->
 (J.stop i H /\ D.nx σ H) \/ (J.go i H /\ ∃ N : St -> Hp -> Prop, (∀ σ' H', N σ' H' -> ∃ m', m' < m /\ W (i + 1) m' σ' H') /\ ∀ x H', J.yld i H x H' -> g x σ H' fun σ2 H2 => tb { D with nx := N, ct := N, bk := D.nx } σ2 H2)
def pinsAt (fp : List Addr) (h : Heap) : List (Addr × Obj) := fp.filterMap fun b => (h.get? b).map fun o => (b, o)
theorem mem_pinsAt {fp : List Addr} {h : Heap} {b : Addr} {o : Obj} (hb : b ∈ fp) (e : h.get? b = some o) : (b, o) ∈ pinsAt fp h := List.mem_filterMap.mpr ⟨b, hb, by rw [e]; rfl⟩
theorem of_pinsAt {fp : List Addr} {h : Heap} {p : Addr × Obj} (hp : p ∈ pinsAt fp h) : p.1 ∈ fp /\ h.get? p.1 = some p.2 := by
 obtain ⟨b, hb, e⟩ := List.mem_filterMap.mp hp
 cases q : h.get? b with
 | none => rw [q] at e; cases e
 | some o =>
  rw [q] at e
  have e' : (b, o) = p := Option.some.inj e
  subst e'
  exact ⟨hb, q⟩
theorem Inv.pinned {pins : List (Addr × Obj)} {σ : St} {H : Hp} {s : Shared} {fp : List Addr} (I : Inv X pins σ H s) (hf : ∀ b ∈ fp, FpOk X pins H b) (ho : ∀ b ∈ fp, ∃ o, s.heap.get? b = some o /\ ∀ v, o.data ≠ .cell v) : Inv X (pins ++ pinsAt fp s.heap) σ H s :=
 I.pins_of fun p hp => (List.mem_append.mp hp).elim (fun z => I.pin p (List.mem_append_right _ z)) fun z => by
  obtain ⟨hb, e⟩ := of_pinsAt z
  obtain ⟨f0, f1, f2, _⟩ := hf p.1 hb
  obtain ⟨o, e', d⟩ := ho p.1 hb
  rw [e] at e'; cases e'
  exact ⟨e, f0, f1, f2, d⟩
theorem Inv.unpinned {pins pl : List (Addr × Obj)} {σ : St} {H : Hp} {s : Shared} (I : Inv X (pins ++ pl) σ H s) : Inv X pins σ H s := I.pins_of fun p hp => I.pin p (List.mem_append_right _ (List.mem_append_left _ hp))
theorem ps_for {iter : Expr} {body : List Stmt} {wi : TI} {g : TG} {tb : TS} {pos : Pos} (hp : PassesOwn (model X.prog X.w) X.A X.env X.xe) (hc : X.calm = true) (hi : PI X tg iter wi) (hg : PG X tg g) (hb : PSs X body tb)
  (hs : ∀ x, foldedSetIterable iter X.env x = pure x := by intro _; rfl) : PS X (.For tg iter body [] pos) (tFor wi g tb) := by
 (first | refine ⟨?_⟩ | skip); intro pins s σ H D I h
 refine wpAny_For (thn (hi pins s σ H _ I h) fun v s1 h1 => thn h1 fun itv s2 h2 => ?_) hs
 obtain ⟨it, fp, tn, J, H2, e, I2, T, st2, f2, W, ⟨m0, w0⟩, turn⟩ := h2
 subst e
 -- what stays true of the iterator's objects through the loop
 have stat : ∀ {H' : Hp}, (∀ b ∈ fp, H' b = none) -> ∀ b ∈ fp, FpOk X pins H' b := fun hn b hb => ⟨hn b hb, (f2 b hb).2⟩
 refine codeAny_forLoop_any (fun n s' => ∃ i σ' H', Inv X pins σ' H' s' /\ tn i s'.heap /\ (∀ b ∈ fp, H' b = none) /\ W i n σ' H') ?_ m0 ⟨0, σ, H2, I2, st2, fun b hb => (f2 b hb).1, w0⟩
 rintro n s3 ⟨i, σ3, H3, I3, st3, fr3, w3⟩
 rcases turn i n σ3 H3 w3 with ⟨stop, qn⟩ | ⟨go, N, hN, step⟩
 ·refine wpAny_passesOwn hp (thn (T.done X rfl rfl rfl hc i pins s3 σ3 H3 X.xe I3 (stat fr3) st3 stop) fun r s4 ⟨hr, I4⟩ => ?_)
  subst hr
  exact wpAny_execs_nil ⟨σ3, H3, I4, qn⟩
 ·refine wpAny_passesOwn hp (thn (T.item X rfl rfl rfl hc i pins s3 σ3 H3 X.xe I3 (stat fr3) st3 go) fun r s4 ⟨u, hr, h4⟩ => ?_)
  subst hr
  refine wpAny_passesOwn hp (thn h4 fun _ s5 ⟨x, H5, I5, r5, y5, st5, fr5⟩ => ?_)
  have I5' := I5.pinned (stat fr5) (T.obj _ _ st5)
  refine wpAny_passesOwn hp (thn (hg _ s5 σ3 H5 x u _ I5' r5 (step x H5 y5)) fun _ s6 ⟨σ6, H6, I6, q6⟩ => ?_)
  refine wpAny_passesOwn hp (thn (hb _ s6 σ6 H6 _ I6 q6) fun f s7 q7 => ?_)
  have again : ∀ {σ7 : St} {H7 : Hp}, Inv X (pins ++ pinsAt fp s5.heap) σ7 H7 s7 -> N σ7 H7 -> ∃ m, m < n /\ ∃ i σ' H', Inv X pins σ' H' s7 /\ tn i s7.heap /\ (∀ b ∈ fp, H' b = none) /\ W i m σ' H' := fun {σ7 H7} I7 n7 => by
   obtain ⟨m', hm, w7⟩ := hN σ7 H7 n7
   refine ⟨m', hm, i + 1, σ7, H7, I7.unpinned, T.keep _ _ _ st5 fun b hb o e => (I7.pin (b, o) (List.mem_append_right _ (List.mem_append_right _ (mem_pinsAt hb e)))).1, fun b hb => ?_, w7⟩
   obtain ⟨o, e, d⟩ := T.obj _ _ st5 b hb
   exact (I7.pin (b, o) (List.mem_append_right _ (List.mem_append_right _ (mem_pinsAt hb e)))).2.1
  cases f with
  | next => obtain ⟨σ7, H7, I7, n7⟩ := q7; exact again I7 n7
  | cont => obtain ⟨σ7, H7, I7, n7⟩ := q7; exact again I7 n7
  | brk => obtain ⟨σ7, H7, I7, q7⟩ := q7; exact ⟨σ7, H7, I7.unpinned, q7⟩
  | ret v => obtain ⟨x7, σ7, H7, I7, r7, q7⟩ := q7; exact ⟨x7, σ7, H7, I7.unpinned, r7, q7⟩
end
end L2
namespace L2
open PySem PySem.Spec PyProof.Rows
abbrev R2 := V -> V -> Hp -> VK -> Prop
def OpR (X : Cx) (f : Value -> Value -> Sem Value) (r : R2) : Prop :=
 ∀ (pins : List (Addr × Obj)) (s : Shared) (σ : St) (H : Hp) (x y : V) (v u : Value) (Q : VK), Inv X pins σ H s -> RelV x v -> RelV y u -> r x y H Q ->
  wpAny (model X.prog X.w) X.A (f v u) (EP X pins σ Q) X.xe s
def CallR (X : Cx) (f : Value) (r : List V -> Hp -> VK -> Prop) : Prop :=
 ∀ (pins : List (Addr × Obj)) (s : Shared) (σ : St) (H : Hp) (xs : List V) (us : List Value) (Q : VK), Inv X pins σ H s -> Vals xs us -> r xs H Q ->
  wpAny (model X.prog X.w) X.A (call f us) (EP X pins σ Q) X.xe s
def TruR (X : Cx) (r : V -> Hp -> (Bool -> Hp -> Prop) -> Prop) : Prop :=
 ∀ (pins : List (Addr × Obj)) (s : Shared) (σ : St) (H : Hp) (x : V) (v : Value) (Q : Bool -> Hp -> Prop), Inv X pins σ H s -> RelV x v -> r x H Q ->
  wpAny (model X.prog X.w) X.A (truthy v) (TP X pins σ Q) X.xe s
def tOp (r : R2) (ta tb : TE) : TE := fun σ H Q => ta σ H fun x H1 => tb σ H1 fun y H2 => r x y H2 Q
def rI (C : Int -> Int -> Prop) (g : Int -> Int -> V) : R2 := fun x y H Q => ∃ i j, x = .int i /\ y = .int j /\ C i j /\ Q (g i j) H
def rI0 (g : Int -> Int -> V) : R2 := fun x y H Q => ∃ i j, x = .int i /\ y = .int j /\ Q (g i j) H
section
variable {X : Cx} {a b c : Expr} {ta tb tc : TE} {pos : Pos}
theorem binT (ha : PE X a ta) (hb : PE X b tb) {pins : List (Addr × Obj)} {s : Shared} {σ : St} {H : Hp} {R : V -> V -> Hp -> Prop} (I : Inv X pins σ H s)
  (h : ta σ H fun x H1 => tb σ H1 fun y H2 => R x y H2) {Q : Value -> Shared -> Prop} {f : Value -> Value -> Sem Value}
  (hf : ∀ v u s2 x y H2, Inv X pins σ H2 s2 -> RelV x v -> RelV y u -> R x y H2 -> wpAny (model X.prog X.w) X.A (f v u) Q X.xe s2) :
  wpAny (model X.prog X.w) X.A (eval a X.env) (fun v s₁ => wpAny (model X.prog X.w) X.A (eval b X.env) (fun u s₂ => wpAny (model X.prog X.w) X.A (f v u) Q X.xe s₂) X.xe s₁) X.xe s := by
 refine thn (ha pins s σ H _ I h) fun v s1 ⟨x, H1, I1, r1, q1⟩ => ?_
 refine thn (hb pins s1 σ H1 _ I1 q1) fun u s2 ⟨y, H2, I2, r2, q2⟩ => ?_
 exact hf v u s2 x y H2 I2 r1 r2 q2
theorem pe_op {op : Operator} {r : R2} (ho : OpR X (binaryOp op) r) (ha : PE X a ta) (hb : PE X b tb) : PE X (.BinOp a op b pos) (tOp r ta tb) := by
 (first | refine ⟨?_⟩ | skip); intro pins s σ H Q I h
 exact wpAny_BinOp (binT ha hb I h fun v u s2 x y H2 I2 rx ry q => ho pins s2 σ H2 x y v u Q I2 rx ry q)
theorem opI {f : Value -> Value -> Sem Value} {C : Int -> Int -> Prop} {g : Int -> Int -> Int}
  (rule : ∀ (i j : Int) (t u : Tok) (s : Shared) (Q : Value -> Shared -> Prop) (E : Value -> Shared -> Prop), C i j -> Q (.int (g i j) s.toks) { s with toks := s.toks + 1 } -> wpAny (model X.prog X.w) X.A (f (.int i t) (.int j u)) Q E s) :
  OpR X f (rI C fun i j => .int (g i j)) := by
 (first | refine ⟨?_⟩ | skip); intro pins s σ H x y v u Q I rx ry h
 obtain ⟨i, j, rfl, rfl, hc, q⟩ := h
 obtain ⟨t, rfl⟩ := rx
 obtain ⟨t', rfl⟩ := ry
 exact rule i j t t' s _ _ hc ⟨.int (g i j), H, I.tok _, ⟨_, rfl⟩, q⟩
theorem opI0 {f : Value -> Value -> Sem Value} {g : Int -> Int -> Int}
  (rule : ∀ (i j : Int) (t u : Tok) (s : Shared) (Q : Value -> Shared -> Prop) (E : Value -> Shared -> Prop), Q (.int (g i j) s.toks) { s with toks := s.toks + 1 } -> wpAny (model X.prog X.w) X.A (f (.int i t) (.int j u)) Q E s) :
  OpR X f (rI0 fun i j => .int (g i j)) := by
 (first | refine ⟨?_⟩ | skip); intro pins s σ H x y v u Q I rx ry h
 obtain ⟨i, j, rfl, rfl, q⟩ := h
 obtain ⟨t, rfl⟩ := rx
 obtain ⟨t', rfl⟩ := ry
 exact rule i j t t' s _ _ ⟨.int (g i j), H, I.tok _, ⟨_, rfl⟩, q⟩
theorem opB0 {f : Value -> Value -> Sem Value} {g : Int -> Int -> Bool}
  (rule : ∀ (i j : Int) (t u : Tok) (s : Shared) (Q : Value -> Shared -> Prop) (E : Value -> Shared -> Prop), Q (.bool (g i j)) s -> wpAny (model X.prog X.w) X.A (f (.int i t) (.int j u)) Q E s) :
  OpR X f (rI0 fun i j => .bl (g i j)) := by
 (first | refine ⟨?_⟩ | skip); intro pins s σ H x y v u Q I rx ry h
 obtain ⟨i, j, rfl, rfl, q⟩ := h
 obtain ⟨t, rfl⟩ := rx
 obtain ⟨t', rfl⟩ := ry
 exact rule i j t t' s _ _ ⟨.bl (g i j), H, I, rfl, q⟩
def CDiv (i j : Int) : Prop := 0 < j /\ j < 1073741824
def CPow (i j : Int) : Prop := 0 <= j /\ j <= 1000000 /\ i.natAbs < 2 ^ 64
def CMul (i j : Int) : Prop := (-(2 ^ 64) < i /\ i < 2 ^ 64) \/ (-(2 ^ 64) < j /\ j < 2 ^ 64)
theorem CMul.ok {i j : Int} (h : CMul i j) : IntMulOk i j := by
 rcases h with ⟨h1, h2⟩ | ⟨h1, h2⟩
 ·exact .of_left (intBits_le_64 h1 h2)
 ·exact .of_right (intBits_le_64 h1 h2)
theorem op_add : OpR X (binaryOp .Add) (rI0 fun i j => .int (i + j)) := opI0 fun _ _ _ _ _ _ _ q => add_int q
theorem op_mul : OpR X (binaryOp .Mult) (rI CMul fun i j => .int (i * j)) := opI fun _ _ _ _ _ _ _ hc q => mul_int q hc.ok
theorem op_fdiv : OpR X (binaryOp .FloorDiv) (rI CDiv fun i j => .int (i / j)) := opI fun i j _ _ _ _ _ hc q => by
 have h1 : (0 : Int) < j := hc.1
 have h2 : j < 1073741824 := hc.2
 exact floordiv_int (by omega) (by rw [Int.fdiv_eq_ediv_of_nonneg i (by omega)]; exact q) (.inl (PyProof.noPylong_small (by omega)))
theorem op_mod : OpR X (binaryOp .Mod) (rI (fun _ j => 0 < j) fun i j => .int (i % j)) := opI fun i j _ _ _ _ _ hc q => by
 have h1 : (0 : Int) < j := hc
 exact mod_int' (by omega) (by rw [Int.fmod_eq_emod_of_nonneg i (by omega)]; exact q)
theorem op_pow : OpR X (binaryOp .Pow) (rI CPow fun i j => .int (i ^ j.toNat)) := opI fun _ _ _ _ _ _ _ hc q => pow_int_small hc.1 hc.2.1 hc.2.2 q
end
def scal : V -> V -> Bool
 | .non, .non => true | .non, .int _ => true | .int _, .non => true | .non, .bl _ => true | .bl _, .non => true | .non, .str _ => true | .str _, .non => true
 | .int _, .int _ => true | .bl _, .bl _ => true | .str _, .str _ => true | .byt _, .byt _ => true
 | .int _, .str _ => true | .str _, .int _ => true | .bl _, .str _ => true | .str _, .bl _ => true
 | _, _ => false
def rEq : R2 := fun x y H Q => scal x y = true /\ Q (.bl (decide (x = y))) H
def rNe : R2 := fun x y H Q => scal x y = true /\ Q (.bl (!decide (x = y))) H
theorem dec_int {i j : Int} : decide (V.int i = V.int j) = (i == j) := by
 rw [Bool.eq_iff_iff]
 simp
theorem dec_bl {i j : Bool} : decide (V.bl i = V.bl j) = (i == j) := by
 rw [Bool.eq_iff_iff]
 simp
theorem dec_str {i j : Str} : decide (V.str i = V.str j) = (i == j) := by
 rw [Bool.eq_iff_iff]
 simp
theorem dec_byt {i j : Array UInt8} : decide (V.byt i = V.byt j) = (i.toList == j.toList) := by
 rw [Bool.eq_iff_iff]
 cases i
 cases j
 simp
section
variable {X : Cx} {a b c : Expr} {ta tb tc : TE} {pos : Pos}
theorem fin_bl {pins : List (Addr × Obj)} {σ : St} {H : Hp} {s : Shared} {Q : VK} {k k' : Bool} (I : Inv X pins σ H s) (q : Q (.bl k) H) (e : k = k') : EP X pins σ Q (.bool k') s := by
 subst e
 exact ⟨.bl k, H, I, rfl, q⟩
theorem op_eq : OpR X (compareOp .Eq) rEq := by
 (first | refine ⟨?_⟩ | skip); intro pins s σ H x y v u Q I rx ry h
 obtain ⟨hs, q⟩ := h
 cases x with
 | non =>
  cases rx
  cases y with
  | non => cases ry; exact PySem.EqNone.eq_none_none (fin_bl I q (by simp))
  | bl j => cases ry; exact PySem.EqNone.eq_none_bool (fin_bl I q (by simp))
  | int j => obtain ⟨t', rfl⟩ := ry; exact PySem.EqNone.eq_none_int (fin_bl I q (by simp))
  | str j => obtain ⟨t', rfl⟩ := ry; exact PySem.EqNone.eq_none_str (fin_bl I q (by simp))
  | _ => exact absurd (show false = true from hs) Bool.false_ne_true
 | bl i =>
  cases rx
  cases y with
  | non => cases ry; exact PySem.EqNone.eq_bool_none (fin_bl I q (by simp))
  | bl j => cases ry; exact eq_bool (fin_bl I q dec_bl)
  | str j => obtain ⟨t', rfl⟩ := ry; exact PySem.EqMixed.eq_bool_str (fin_bl I q (by simp))
  | _ => exact absurd (show false = true from hs) Bool.false_ne_true
 | int i =>
  obtain ⟨t, rfl⟩ := rx
  cases y with
  | non => cases ry; exact PySem.EqNone.eq_int_none (fin_bl I q (by simp))
  | int j => obtain ⟨t', rfl⟩ := ry; exact eq_int (fin_bl I q dec_int)
  | str j => obtain ⟨t', rfl⟩ := ry; exact PySem.EqMixed.eq_int_str (fin_bl I q (by simp))
  | _ => exact absurd (show false = true from hs) Bool.false_ne_true
 | str i =>
  obtain ⟨t, rfl⟩ := rx
  cases y with
  | non => cases ry; exact PySem.EqNone.eq_str_none (fin_bl I q (by simp))
  | bl j => cases ry; exact PySem.EqMixed.eq_str_bool (fin_bl I q (by simp))
  | int j => obtain ⟨t', rfl⟩ := ry; exact PySem.EqMixed.eq_str_int (fin_bl I q (by simp))
  | str j => obtain ⟨t', rfl⟩ := ry; exact eq_str (fin_bl I q dec_str)
  | _ => exact absurd (show false = true from hs) Bool.false_ne_true
 | byt i =>
  obtain ⟨t, rfl⟩ := rx
  cases y with
  | byt j => obtain ⟨t', rfl⟩ := ry; exact PySem.W.eq_bytes (fin_bl I q dec_byt)
  | _ => exact absurd (show false = true from hs) Bool.false_ne_true
 | _ => cases y <;> exact absurd (show false = true from hs) Bool.false_ne_true
theorem op_ne : OpR X (compareOp .NotEq) rNe := by
 (first | refine ⟨?_⟩ | skip); intro pins s σ H x y v u Q I rx ry h
 obtain ⟨hs, q⟩ := h
 cases x with
 | non =>
  cases rx
  cases y with
  | non => cases ry; exact PySem.EqNone.ne_none_none (fin_bl I q (by simp))
  | bl j => cases ry; exact PySem.EqNone.ne_none_bool (fin_bl I q (by simp))
  | int j => obtain ⟨t', rfl⟩ := ry; exact PySem.EqNone.ne_none_int (fin_bl I q (by simp))
  | str j => obtain ⟨t', rfl⟩ := ry; exact PySem.EqNone.ne_none_str (fin_bl I q (by simp))
  | _ => exact absurd (show false = true from hs) Bool.false_ne_true
 | bl i =>
  cases rx
  cases y with
  | non => cases ry; exact PySem.EqNone.ne_bool_none (fin_bl I q (by simp))
  | bl j => cases ry; exact ne_bool (fin_bl I q (congrArg not dec_bl))
  | str j => obtain ⟨t', rfl⟩ := ry; exact PySem.EqMixed.ne_bool_str (fin_bl I q (by simp))
  | _ => exact absurd (show false = true from hs) Bool.false_ne_true
 | int i =>
  obtain ⟨t, rfl⟩ := rx
  cases y with
  | non => cases ry; exact PySem.EqNone.ne_int_none (fin_bl I q (by simp))
  | int j => obtain ⟨t', rfl⟩ := ry; exact ne_int (fin_bl I q (congrArg not dec_int))
  | str j => obtain ⟨t', rfl⟩ := ry; exact PySem.EqMixed.ne_int_str (fin_bl I q (by simp))
  | _ => exact absurd (show false = true from hs) Bool.false_ne_true
 | str i =>
  obtain ⟨t, rfl⟩ := rx
  cases y with
  | non => cases ry; exact PySem.EqNone.ne_str_none (fin_bl I q (by simp))
  | bl j => cases ry; exact PySem.EqMixed.ne_str_bool (fin_bl I q (by simp))
  | int j => obtain ⟨t', rfl⟩ := ry; exact PySem.EqMixed.ne_str_int (fin_bl I q (by simp))
  | str j => obtain ⟨t', rfl⟩ := ry; exact ne_str (fin_bl I q (congrArg not dec_str))
  | _ => exact absurd (show false = true from hs) Bool.false_ne_true
 | byt i =>
  obtain ⟨t, rfl⟩ := rx
  cases y with
  | byt j => obtain ⟨t', rfl⟩ := ry; exact PySem.W.ne_bytes (fin_bl I q (congrArg not dec_byt))
  | _ => exact absurd (show false = true from hs) Bool.false_ne_true
 | _ => cases y <;> exact absurd (show false = true from hs) Bool.false_ne_true
theorem op_lt : OpR X (compareOp .Lt) (rI0 fun i j => .bl (decide (i < j))) := opB0 fun _ _ _ _ _ _ _ q => lt_int q
theorem op_gt : OpR X (compareOp .Gt) (rI0 fun i j => .bl (decide (j < i))) := opB0 fun _ _ _ _ _ _ _ q => gt_int q
theorem op_ge : OpR X (compareOp .GtE) (rI0 fun i j => .bl (decide (j <= i))) := opB0 fun _ _ _ _ _ _ _ q => ge_int q
theorem op_lt_str : OpR X (compareOp .Lt) (fun x y H Q => ∃ i j, x = .str i /\ y = .str j /\ Q (.bl (decide (i.cps.toList < j.cps.toList))) H) := by
 (first | refine ⟨?_⟩ | skip); intro pins s σ H x y v u Q I rx ry h
 obtain ⟨i, j, rfl, rfl, q⟩ := h
 obtain ⟨t, rfl⟩ := rx
 obtain ⟨t', rfl⟩ := ry
 exact lt_str (fin_bl I q rfl)
theorem op_in_str : OpR X (compareOp .In) (fun x y H Q => ∃ i j, x = .str i /\ y = .str j /\ Q (.bl (!(Builtin.Str.occurrences j i 0 j.length 1).isEmpty)) H) := by
 (first | refine ⟨?_⟩ | skip); intro pins s σ H x y v u Q I rx ry h
 obtain ⟨i, j, rfl, rfl, q⟩ := h
 obtain ⟨t, rfl⟩ := rx
 obtain ⟨t', rfl⟩ := ry
 exact in_str (fin_bl I q rfl)
theorem op_notin_str : OpR X (compareOp .NotIn) (fun x y H Q => ∃ i j, x = .str i /\ y = .str j /\ Q (.bl (!(!(Builtin.Str.occurrences j i 0 j.length 1).isEmpty))) H) := by
 (first | refine ⟨?_⟩ | skip); intro pins s σ H x y v u Q I rx ry h
 obtain ⟨i, j, rfl, rfl, q⟩ := h
 obtain ⟨t, rfl⟩ := rx
 obtain ⟨t', rfl⟩ := ry
 exact notIn_str (fin_bl I q rfl)
theorem nomark (b : Expr) {op : CmpOp} (h : op ≠ .In := by decide) (h2 : op ≠ .NotIn := by decide) : behindInMarks op b = false := by
 have e1 : (op == CmpOp.In) = false := by cases op <;> first | rfl | exact absurd rfl h
 have e2 : (op == CmpOp.NotIn) = false := by cases op <;> first | rfl | exact absurd rfl h2
 cases b <;> simp [behindInMarks, e1, e2]
def tTest (t : TE) : TT := fun σ H Q => t σ H fun x H' => ∃ k, x = .bl k /\ Q k H'
theorem pt_cmpR {op : CmpOp} {r : R2} (ho : OpR X (compareOp op) r) (ha : PE X a ta) (hb : PE X b tb) (hm : behindInMarks op b = false) : PT X (.Compare a [op] [b] pos) (tTest (tOp r ta tb)) := by
 (first | refine ⟨?_⟩ | skip); intro pins s σ H Q I h
 refine wpAny_isTrue_Compare1 (thn (ha pins s σ H _ I h) fun v s1 ⟨x, H1, I1, r1, q1⟩ => thn (hb pins s1 σ H1 _ I1 q1) fun u s2 ⟨y, H2, I2, r2, q2⟩ =>
  thn (ho pins s2 σ H2 x y v u _ I2 r1 r2 q2) fun c s3 ⟨z, H3, I3, r3, k, e, q3⟩ => ?_) hm
 subst e
 cases r3
 exact wpAny_truthy_bool ⟨H3, I3, q3⟩
def TruV (K : PySem.W.Frag) (x : V) (H : Hp) (k : Bool) : Prop :=
 match x with
 | .non => k = false
 | .bl b => k = b
 | .int i => k = (i != 0)
 | .str y => y.length <= sizeLine /\ k = ((y.length : Int) != 0)
 | .byt y => y.size <= sizeLine /\ k = ((y.size : Int) != 0)
 | .ref p => (∃ xs, SqL K H p xs /\ k = !xs.isEmpty) \/ (∃ xs, SqT K H p xs /\ k = !xs.isEmpty) \/ ∃ kvs, H p = some (.dK kvs) /\ k = !kvs.isEmpty
 | _ => False
theorem isEmpty_kv {κ : Type} {kvs : List (κ × V)} {vs : List (κ × Value)} (r : KV kvs vs) : (!vs.isEmpty) = !kvs.isEmpty := by
 cases r <;> rfl
theorem isEmpty_of {xs : List V} {its : List Value} (r : Vals xs its) : (!its.toArray.isEmpty) = !xs.isEmpty := by
 cases r <;> simp
theorem line63 : (sizeLine : Nat) < 2 ^ 63 := by rw [sizeLine_eq]; decide
theorem tru_ok : TruR X (fun x H Q => ∃ k, TruV X.K x H k /\ Q k H) := by
 (first | refine ⟨?_⟩ | skip); intro pins s σ H x v Q I rx h
 obtain ⟨k, e, q⟩ := h
 have hl := line63
 have hs : sizeLine = 16777216 := sizeLine_eq
 cases x with
 | non =>
  cases rx
  have e' : k = false := e
  subst e'
  exact truthy_none ⟨H, I, q⟩
 | bl b =>
  cases rx
  have e' : k = b := e
  subst e'
  exact wpAny_truthy_bool ⟨H, I, q⟩
 | int i =>
  obtain ⟨t, rfl⟩ := rx
  have e' : k = (i != 0) := e
  subst e'
  exact PySem.P.truthy_int ⟨H, I, q⟩
 | str y =>
  obtain ⟨t, rfl⟩ := rx
  obtain ⟨hy, e'⟩ : y.length <= sizeLine /\ k = ((y.length : Int) != 0) := e
  subst e'
  exact PySem.P.truthy_str (by omega) ⟨H, I.tok _, q⟩
 | byt y =>
  obtain ⟨t, rfl⟩ := rx
  obtain ⟨hy, e'⟩ : y.size <= sizeLine /\ k = ((y.size : Int) != 0) := e
  subst e'
  exact PySem.W.truthy_bytes (by omega) ⟨H, I.tok _, q⟩
 | ref p =>
  cases rx
  have e' : (∃ xs, SqL X.K H p xs /\ k = !xs.isEmpty) \/ (∃ xs, SqT X.K H p xs /\ k = !xs.isEmpty) \/ ∃ kvs, H p = some (.dK kvs) /\ k = !kvs.isEmpty := e
  rcases e' with ⟨xs, hx, e'⟩ | ⟨xs, hx, e'⟩ | ⟨kvs, hx, e'⟩
  ·subst e'
   obtain ⟨its, r, pl, hz⟩ := I.list hx
   have hlen := r.length
   exact wpAny_truthy_list pl.isList (by simp only [List.size_toArray]; omega) ⟨H, I.tok _, by rw [isEmpty_of r]; exact q⟩
  ·subst e'
   obtain ⟨its, r, pl, hz⟩ := I.tuple hx
   have hlen := r.length
   exact truthy_tuple pl (by simp only [List.size_toArray]; omega) ⟨H, I.tok _, by rw [isEmpty_of r]; exact q⟩
  ·subst e'
   obtain ⟨hz, hS, vs, r, m⟩ : kvs.length <= sizeLine /\ (p == sysModules) = false /\ ∃ vs, KV kvs vs /\ s.heap.DictOf (mixKind X.prog X.w) p vs := I.hok p _ hx
   have hlen : kvs.length = vs.length := Paired.length r
   exact wpAny_truthy_dict hS m (by omega) ⟨H, I.tok _, by rw [isEmpty_kv r]; exact q⟩
 | _ => exact (show False from e).elim
theorem pt_truth (ha : PE X a ta) (he : ∀ whole, isTrue a X.env whole = (do let v ← whole; standAt a.pos; holding [v] (truthy v))) :
  PT X a (fun σ H Q => ta σ H fun x H' => ∃ k, TruV X.K x H' k /\ Q k H') := by
 (first | refine ⟨?_⟩ | skip); intro pins s σ H Q I h
 exact isTrue_plain (thn (ha pins s σ H _ I h) fun v s1 ⟨x, H1, I1, r1, q1⟩ => tru_ok pins s1 σ H1 x v Q I1 r1 q1) (he _)
theorem op_add_str : OpR X (binaryOp .Add) (fun x y H Q => ∃ i j, x = .str i /\ y = .str j /\ i.length + j.length <= sizeLine /\ Q (.str (i ++ j)) H) := by
 (first | refine ⟨?_⟩ | skip); intro pins s σ H x y v u Q I rx ry h
 obtain ⟨i, j, rfl, rfl, hz, q⟩ := h
 obtain ⟨t, rfl⟩ := rx
 obtain ⟨t', rfl⟩ := ry
 exact add_str (fun t' tk => ⟨.str (i ++ j), H, I.tok _, ⟨_, rfl⟩, q⟩) hz
theorem vals1 {x : V} {us : List Value} (r : Vals [x] us) : ∃ u, us = [u] /\ RelV x u := by
 cases r with
 | cons r1 r2 => cases r2; exact ⟨_, rfl, r1⟩
theorem vals2 {x y : V} {us : List Value} (r : Vals [x, y] us) : ∃ u w', us = [u, w'] /\ RelV x u /\ RelV y w' := by
 cases r with
 | cons r1 r2 =>
  cases r2 with
  | cons r3 r4 => cases r4; exact ⟨_, _, rfl, r1, r3⟩
end
end L2
namespace L2
open PySem PySem.Spec PyProof.Rows
structure ObjM (h : Heap) (x dx C : Addr) (mA : Str -> Option Value) : Prop where
 obj : h.get? x = some (PySem.W.instObj C dx)
 ns : h.Ns1 dx mA
 ne : dx ≠ x
theorem lookIn_ns {h : Heap} {dx : Addr} {mA : Str -> Option Value} (n : h.Ns1 dx mA) : ∃ od, h.get? dx = some od /\ ∀ name, PySem.W.lookIn name od = some (mA name) := by
 obtain ⟨o, es, ep, ho, hd, hk, _, hm⟩ := n
 refine ⟨o, ho, fun name => ?_⟩
 have e := hm name
 unfold nsFind findBy at e
 rw [← Array.find?_toList] at e
 unfold PySem.W.lookIn
 rw [hd]
 dsimp only
 split
 ·rename_i y q
  rw [q] at e
  exact congrArg some e
 ·rename_i q
  rw [q] at e
  have a : es.toList.any (·.refKey) = false := by
   rw [List.any_eq_false]
   intro y hy
   obtain ⟨z, t, hkey⟩ := hk y (Array.mem_toList_iff.mp hy)
   simp [DictEntry.refKey, hkey]
  have a' : ¬ es.toList.any (·.refKey) = true := by rw [a]; exact Bool.false_ne_true
  rw [if_neg a']
  exact congrArg some e
theorem ObjM.look {h : Heap} {x dx C : Addr} {mA : Str -> Option Value} (I : ObjM h x dx C mA) : ∃ od, PySem.W.InstAt h x (PySem.W.instObj C dx) C (some od) /\ ∀ name, PySem.W.lookIn name od = some (mA name) :=
 let ⟨od, ho, hl⟩ := lookIn_ns I.ns
 ⟨od, ⟨I.obj, rfl, rfl, ho⟩, hl⟩
theorem RelO.some_of {v : V} {o : Option Value} (r : RelO (some v) o) : ∃ u, o = some u /\ RelV v u := by
 cases o with
 | none => exact (show False from r).elim
 | some u => exact ⟨u, rfl, r⟩
section
variable {P : Program} {w : World} {H H' : Hp} {h h' : Heap} {a C dx : Addr} {fs fs' : List (Str × V)}
theorem ins_get (hok : HOk P w H h) (e : H a = some (.ins C dx fs)) : ∃ mA, ObjM h a dx C mA /\ (∀ f, RelO (fs.lookup f) (mA f)) /\ PySem.Within mA (fs.map (·.1)) /\ fs.length <= 1000 /\ H dx = some (.own a) := by
 obtain ⟨d, z, ne, ob, mA, n, r, q⟩ := (show ObjOk P w H h a (.ins C dx fs) from hok a _ e)
 exact ⟨mA, ⟨ob, n, ne⟩, r, q, z, d⟩
end
structure Cls (K : PySem.W.Frag) (C : Addr) : Prop where
 pg : PySem.W.plainGet K C Str.empty = true
 hd : PySem.W.hasDictIn K C = true
 po : PySem.W.plainOver K C = true
 sa : PySem.W.findIn K (.ref C) "__setattr__" = some (some (.builtin "object.__setattr__"))
theorem Cls.get {K : PySem.W.Frag} {C : Addr} (c : Cls K C) (f : Str) : PySem.W.plainGet K C f = true := c.pg
section
variable {X : Cx} {pins : List (Addr × Obj)} {σ : St} {H : Hp} {s : Shared} {A : Around} {E : Value -> Shared -> Prop} {Q : Value -> Shared -> Prop} {c : Value} {b : Bool}
inductive TyOf (K : PySem.W.Frag) (H : Hp) : V -> Value -> Prop where
 | non : TyOf K H .non (.type "NoneType")
 | bl (x : Bool) : TyOf K H (.bl x) (.type "bool")
 | int (i : Int) : TyOf K H (.int i) (.type "int")
 | str (x : Str) : TyOf K H (.str x) (.type "str")
 | flt (x : UInt64) : TyOf K H (.flt x) (.type "float")
 | lst {a : Addr} {xs : List V} (e : H a = some (.lst xs)) : TyOf K H (.ref a) (.type "list")
 | frz {a : Addr} {o : Obj} {xs : List V} (e : H a = some (.frz o (.lst xs))) : TyOf K H (.ref a) (.type "list")
 | tup {a : Addr} {xs : List V} (e : H a = some (.tup xs)) : TyOf K H (.ref a) (.type "tuple")
 | dK {a : Addr} {kvs : List (Key × V)} (e : H a = some (.dK kvs)) : TyOf K H (.ref a) (.type "dict")
 | dT {a : Addr} {kvs : List (List Key × V)} (e : H a = some (.dT kvs)) : TyOf K H (.ref a) (.type "dict")
 | ins {a C dx : Addr} {fs : List (Str × V)} (e : H a = some (.ins C dx fs)) (cl : Cls K C) (ha : PySem.W.findIn K (.ref C) "__class__" = some (some (.builtin "object.__class__")))
   (hn : PySem.W.specialIn K (.builtin "object.__class__") "__get__" = some (some (.builtin "getset_descriptor.__get__"))) (htk : PySem.W.takesIn K (.builtin "object.__class__") = some true)
   (hm : PySem.W.mroIn K C (.type "object") = some true) : TyOf K H (.ref a) (.ref C)
theorem isinst_ok {x : V} {u t : Value} (I : Inv X pins σ H s) (rx : RelV x u) (ty : TyOf X.K H x t) (e : PySem.W.kitOne X.K t c = some b) (h : ∀ tk, Q (.bool b) { s with toks := tk }) :
  wpAny (model X.prog X.w) A (call (.builtin "isinstance") [u, c]) Q E s := by
 cases ty with
 | non => cases (show u = Value.none from rx); exact PySem.W.kia_one PySem.W.kitx_none I.kIn True.intro e (fun z => nomatch z) h
 | bl y => cases (show u = Value.bool y from rx); exact PySem.W.kia_one PySem.W.kitx_bool I.kIn True.intro e (fun z => nomatch z) h
 | int i => obtain ⟨t, q⟩ := (show ∃ t, u = Value.int i t from rx); cases q; exact PySem.W.kia_one PySem.W.kitx_int I.kIn True.intro e (fun z => nomatch z) h
 | str y => obtain ⟨t, q⟩ := (show ∃ t, u = Value.str y t from rx); cases q; exact PySem.W.kia_one PySem.W.kitx_str I.kIn True.intro e (fun z => nomatch z) h
 | flt y => obtain ⟨t, q⟩ := (show ∃ t, u = Value.float y t from rx); cases q; exact PySem.W.kia_one PySem.W.kitx_float I.kIn True.intro e (fun z => nomatch z) h
 | @lst a xs ea =>
  cases (show u = Value.ref a from rx)
  obtain ⟨_, _, n, _, h1⟩ := (show ObjOk X.prog X.w H s.heap a (.lst xs) from I.hok a _ ea)
  exact PySem.W.kia_one PySem.W.kitx_list I.kIn ⟨_, h1, rfl⟩ e (fun z => nomatch z) h
 | @frz a ob xs ea =>
  cases (show u = Value.ref a from rx)
  obtain ⟨_, _, _, n, _, h1⟩ := (show ObjOk X.prog X.w H s.heap a (.frz ob (.lst xs)) from I.hok a _ ea)
  exact PySem.W.kia_one PySem.W.kitx_list I.kIn ⟨_, h1, rfl⟩ e (fun z => nomatch z) h
 | @tup a xs ea =>
  cases (show u = Value.ref a from rx)
  obtain ⟨_, _, _, p⟩ := (show ObjOk X.prog X.w H s.heap a (.tup xs) from I.hok a _ ea)
  obtain ⟨o, h1, h2, _⟩ := p
  exact PySem.W.kia_one PySem.W.kitx_tuple I.kIn ⟨o, h1, h2⟩ e (fun z => nomatch z) h
 | @dK a kvs ea =>
  cases (show u = Value.ref a from rx)
  obtain ⟨_, _, vs, _, p⟩ := (show ObjOk X.prog X.w H s.heap a (.dK kvs) from I.hok a _ ea)
  obtain ⟨o, es, ep, h1, h2, _⟩ := p
  exact PySem.W.kia_one PySem.W.kitx_dict I.kIn ⟨o, h1, h2.1⟩ e (fun z => nomatch z) h
 | @dT a kvs ea =>
  cases (show u = Value.ref a from rx)
  obtain ⟨_, _, xs, _, o, es, ep, h1, h2, _⟩ := (show ObjOk X.prog X.w H s.heap a (.dT kvs) from I.hok a _ ea)
  exact PySem.W.kia_one PySem.W.kitx_dict I.kIn ⟨o, h1, h2.1⟩ e (fun z => nomatch z) h
 | @ins a C dx fs ea cl ha hn htk hm =>
  cases (show u = Value.ref a from rx)
  obtain ⟨mA, O, _⟩ := ins_get I.hok ea
  obtain ⟨od, J, _⟩ := O.look
  exact PySem.W.kia_one (PySem.W.kitx_own (cl.get _) cl.hd ha hn htk hm) I.kIn J e (fun z => nomatch z) h
end
end L2
namespace L2
open PySem PySem.Spec PyProof.Rows
structure Room (k : Nat) (A : Around) : Prop where
 hd : A.handled = none
 dp : A.depth + 3 * k + 5 < recursionLimit
 un : A.units + 16 * k + 200 < cLine
 gd : A.guards = some []
theorem Room.mono {j k : Nat} {A : Around} (r : Room k A) (h : j <= k) : Room j A := ⟨r.hd, by have := r.dp; omega, by have := r.un; omega, r.gd⟩
theorem Room.deeper {k : Nat} {A : Around} (r : Room (k + 1) A) (env : Env) : Room k (A.deeper env) :=
 ⟨r.hd, by have := r.dp; show A.depth + 1 + 3 * k + 5 < _; omega, by have := r.un; show A.units + 3 + 16 * k + 200 < _; omega, r.gd⟩
theorem Room.depth {k : Nat} {A : Around} (r : Room k A) : A.depth < recursionLimit := by have := r.dp; omega
def tNil : TA := fun _ H Q => Q [] H
def tCons (ta : TE) (tr : TA) : TA := fun σ H Q => ta σ H fun x H1 => tr σ H1 fun xs H2 => Q (x :: xs) H2
section
variable {X : Cx} {e : Expr} {es : List Expr} {te : TE} {t : TA} {pos : Pos}
theorem pa_nil : PA X [] tNil := .mk <| fun _ _ _ _ H Q I h => Calls.spliced_nil ⟨[], H, I, .nil, h⟩
theorem pa_cons (ha : PE X e te) (hr : PA X es t) (hs : starEach (e :: es) X.env = (false, eval e X.env) :: starEach es X.env := by rfl) : PA X (e :: es) (tCons te t) := by
 (first | refine ⟨?_⟩ | skip); intro pos pins s σ H Q I h
 rw [hs]
 show wpAny _ _ (spliced ((false, eval e X.env) :: backTo pos (starEach es X.env))) _ _ s
 refine Calls.spliced_cons (thn (ha pins s σ H _ I h) fun u s1 ⟨x, H1, I1, r1, q1⟩ => ?_)
 exact thn (hr pos pins s1 σ H1 _ I1 q1) fun us s2 ⟨xs, H2, I2, r2, q2⟩ => ⟨x :: xs, H2, I2, .cons r1 r2, q2⟩
end
abbrev Sp := List V -> Hp -> VK -> XK -> Prop
abbrev CXT := List Env -> Hp -> Shared -> XK -> Value -> Shared -> Prop
structure Env0 (P : Program) (w : World) (K : PySem.W.Frag) (mg : Str -> Option Value) (base : Heap) (A : Around) (outer : List Env) (s : Shared) (H : Hp) : Prop where
 frames : A.frames = some outer
 mod : Mod K mg base
 bs : ∀ b o, base.get? b = some o -> s.heap.get? b = some o /\ H b = none
 bsz : base.objs.size <= s.heap.objs.size
 funs : s.heap.FunFrames base outer
 frf : ∀ b ∈ frs outer, H b = none
 hok : HOk P w H s.heap
 bare : AllBare s.gens
def CE (outer : List Env) (P : Program) (w : World) (H : Hp) (s : Shared) (Q : VK) (u : Value) (s' : Shared) : Prop :=
 ∃ v H', s'.os = s.os /\ AllBare s'.gens /\ Un (frs outer) [] H H' s.heap s'.heap /\ HOk P w H' s'.heap /\ RelV v u /\ Q v H'
def CR (CX : CXT) (outer : List Env) (P : Program) (w : World) (H : Hp) (s : Shared) (Q : VK) (E : XK) (r : Result) (s' : Shared) : Prop :=
 match r with
 | .ok (.ret u) => CE outer P w H s Q u s'
 | .ok _ => False
 | .error e => CX outer H s E e s'
structure FnOk (P : Program) (w : World) (K : PySem.W.Frag) (mg : Str -> Option Value) (base : Heap) (CX : CXT) (k : Nat) (f : Addr) (fd : FuncData) (ps : List Str) (sp : Sp) : Prop where
 len : ∀ vs H Q E, sp vs H Q E -> vs.length = ps.length
 run : ∀ (A : Around) (outer : List Env) (s : Shared) (H : Hp) (args : Args) (us : List Value) (vs : List V) (Q : VK) (E : XK), Room k A -> Env0 P w K mg base A outer s H -> BindsTo s fd args (ps.zip us) -> Vals vs us -> sp vs H Q E ->
  codeAny (model P w) A (.call (.ref f) args) (CR CX outer P w H s Q E) s
theorem FnOk.imp {P : Program} {w : World} {K : PySem.W.Frag} {mg : Str -> Option Value} {base : Heap} {CX : CXT} {k : Nat} {f : Addr} {fd : FuncData} {ps : List Str} {sp sp' : Sp} (F : FnOk P w K mg base CX k f fd ps sp)
  (h : ∀ vs H Q E, sp' vs H Q E -> sp vs H Q E) : FnOk P w K mg base CX k f fd ps sp' :=
 ⟨fun vs H Q E q => F.len vs H Q E (h _ _ _ _ q), fun A outer s H args us vs Q E hr he hb hv hs => F.run A outer s H args us vs Q E hr he hb hv (h _ _ _ _ hs)⟩
section
variable {X : Cx} {pins : List (Addr × Obj)} {σ : St} {H : Hp} {s s' : Shared}
theorem Inv.env0 (I : Inv X pins σ H s) : Env0 X.prog X.w X.K X.mg X.base X.A X.stack s H :=
 ⟨I.ok.frames, I.ok.mod, I.bs, Nat.le_trans I.ok.bsz I.sz, I.stack, I.stkFree, I.hok, I.bare⟩
theorem Inv.after {Q : VK} {u : Value} (I : Inv X pins σ H s) (h : CE X.stack X.prog X.w H s Q u s') : EP X pins σ Q u s' := by
 obtain ⟨v, H', os, bare, un, hok, r, q⟩ := h
 obtain ⟨hh, g, d, t, os'⟩ := s'
 obtain rfl : os' = s.os := os
 exact ⟨v, H', I.call (h' := hh) (g' := g) (d' := d) (t' := t) (ch := []) un hok bare (fun b z => absurd z (by simp)), r, q⟩
end
def tCall (sp : Sp) (dvs : List V) (E : XK) (t : TA) : TE := fun σ H Q => t σ H fun vs H1 => sp (vs ++ dvs) H1 Q E
def Binds (K : PySem.W.Frag) (fd : FuncData) (ps : List Str) (ds : List Value) : Prop :=
 ∀ (s : Shared) (us : List Value), K.In s.heap -> (us ++ ds).length = ps.length -> BindsTo s fd ⟨us, []⟩ (ps.zip (us ++ ds))
theorem Binds.all {K : PySem.W.Frag} {fd : FuncData} {ps : List Str} (h : ∀ us : List Value, us.length = ps.length -> bindArgs fd ⟨us, []⟩ = pure (ps.zip us)) : Binds K fd ps [] := fun s us _ hl => by
 rw [List.append_nil] at hl ⊢
 exact .of_eq (h us hl)
def Passes (CX : CXT) (X : Cx) (E : XK) : Prop := ∀ (pins : List (Addr × Obj)) (σ : St) (H : Hp) (s : Shared) (e : Value) (s' : Shared), Inv X pins σ H s -> CX X.stack H s E e s' -> X.xe e s'
section
variable {X : Cx} {CX : CXT} {k : Nat} {f C : Addr} {fd : FuncData} {ps : List Str} {sp : Sp} {dvs : List V} {ds : List Value} {E : XK} {x m : Str} {p pos apos : Pos} {e o : Expr} {es : List Expr} {ta : TE} {t : TA}
theorem run_fn {pins : List (Addr × Obj)} {σ : St} {H : Hp} {s : Shared} {Q : VK} {us : List Value} {vs : List V} (F : FnOk X.prog X.w X.K X.mg X.base CX k f fd ps sp) (hr : Room k X.A) (hb : Binds X.K fd ps ds) (hd : Vals dvs ds) (hx : Passes CX X E)
  (I : Inv X pins σ H s) (r : Vals vs us) (h : sp (vs ++ dvs) H Q E) : wpAny (model X.prog X.w) X.A (call (.ref f) us) (EP X pins σ Q) X.xe s := by
 have r2 : Vals (vs ++ dvs) (us ++ ds) := r.append hd
 have hl : (us ++ ds).length = ps.length := by rw [← r2.length]; exact F.len _ _ _ _ h
 refine wpAny_call (codeAny_mono (F.run X.A X.stack s H ⟨us, []⟩ (us ++ ds) (vs ++ dvs) Q E hr I.env0 (hb s us I.kIn hl) r2 h) fun r s' hq => ?_)
 cases r with
 | error e => exact hx pins σ H s e s' I hq
 | ok fl =>
  cases fl with
  | ret u => exact I.after hq
  | next => exact False.elim hq
  | brk => exact False.elim hq
  | cont => exact False.elim hq
theorem pe_call (F : FnOk X.prog X.w X.K X.mg X.base CX k f fd ps sp) (hr : Room k X.A) (hg : Gl X x) (hm : X.mg x = some (.ref f)) (hk : PySem.W.keepIn X.K (.ref f) = true) (hb : Binds X.K fd ps ds) (hd : Vals dvs ds) (hx : Passes CX X E)
  (ha : PA X (e :: es) t) (hdb : (x == ("__debug__" : Str)) = false := by decide) (he : starEach (e :: es) X.env = (false, eval e X.env) :: starEach es X.env := by rfl) (hpl : (backTo pos (starEach es X.env)).any (·.1) = false := by rfl) :
  PE X (.Call (.Name x p) (e :: es) [] pos) (tCall sp dvs E t) := by
 (first | refine ⟨?_⟩ | skip); intro pins s σ H Q I h
 refine wpAny_Call_Name_kw (ld_glob I hg hm ?_ hdb)
 refine PySem.W.callWith_K (h₀ := X.base) I.ok.mod.kin hk (thn (ha pos pins s σ H _ I h) fun us s1 ⟨vs, H1, I1, r, q⟩ => ⟨I1.kIn, ?_⟩) he hpl
 exact run_fn F hr hb hd hx I1 r q
end
structure FnScope (N P : List Str) (sc : Scope) : Prop where
 kind : sc.kind = .function
 co : sc.isCoroutine = false
 gen : sc.isGenerator = false
 nd : N.Nodup
 pre : N.take P.length = P
 par : ∀ x ∈ P, sc.names.lookup x = some .local \/ sc.names.lookup x = some .cell
 nofree : ∀ y ∈ sc.names, y.2 ≠ .free
theorem bindL_out {kindOf : Str -> Option NameKind} {x : Str} : ∀ {binds : List (Str × Value)} {m : Str -> Option Value}, (∀ v, (x, v) ∉ binds) -> bindL kindOf binds m x = m x
 | [], _, _ => rfl
 | (n, v) :: r, m, h => by
  unfold bindL
  rw [bindL_out fun w hw => h w (List.mem_cons_of_mem _ hw)]
  split
  ·have : x ≠ n := by rintro rfl; exact h v List.mem_cons_self
   simp [this]
  ·rfl
theorem bindC_out {kindOf : Str -> Option NameKind} {x : Str} : ∀ {binds : List (Str × Value)} {m : Str -> Option Value}, (∀ v, (x, v) ∉ binds) -> bindC kindOf binds m x = m x
 | [], _, _ => rfl
 | (n, v) :: r, m, h => by
  unfold bindC
  rw [bindC_out fun w hw => h w (List.mem_cons_of_mem _ hw)]
  split
  ·rfl
  ·have : x ≠ n := by rintro rfl; exact h v List.mem_cons_self
   simp [this]
theorem bindL_get {kindOf : Str -> Option NameKind} {x : Str} {v : Value} : ∀ {P : List Str} {vs : List Value} {i : Nat} {m : Str -> Option Value}, P.Nodup -> P[i]? = some x -> vs[i]? = some v -> kindOf x = some .local ->
  bindL kindOf (P.zip vs) m x = some v
 | [], _, _, _, _, h, _, _ => by simp at h
 | _ :: _, [], _, _, _, _, h, _ => by simp at h
 | p :: P, w :: vs, 0, m, nd, h1, h2, hk => by
  simp at h1 h2; subst h1; subst h2
  show bindL kindOf ((p, w) :: P.zip vs) m p = _
  unfold bindL
  rw [bindL_out fun v hv => (List.nodup_cons.mp nd).1 (List.of_mem_zip hv).1, if_pos hk]
  simp
 | p :: P, w :: vs, i + 1, m, nd, h1, h2, hk => by
  show bindL kindOf ((p, w) :: P.zip vs) m x = _
  unfold bindL
  exact bindL_get (i := i) (List.nodup_cons.mp nd).2 (by simpa using h1) (by simpa using h2) hk
theorem bindC_get {kindOf : Str -> Option NameKind} {x : Str} {v : Value} : ∀ {P : List Str} {vs : List Value} {i : Nat} {m : Str -> Option Value}, P.Nodup -> P[i]? = some x -> vs[i]? = some v -> kindOf x ≠ some .local ->
  bindC kindOf (P.zip vs) m x = some v
 | [], _, _, _, _, h, _, _ => by simp at h
 | _ :: _, [], _, _, _, _, h, _ => by simp at h
 | p :: P, w :: vs, 0, m, nd, h1, h2, hk => by
  simp at h1 h2; subst h1; subst h2
  show bindC kindOf ((p, w) :: P.zip vs) m p = _
  unfold bindC
  rw [bindC_out fun v hv => (List.nodup_cons.mp nd).1 (List.of_mem_zip hv).1, if_neg hk]
  simp
 | p :: P, w :: vs, i + 1, m, nd, h1, h2, hk => by
  show bindC kindOf ((p, w) :: P.zip vs) m x = _
  unfold bindC
  exact bindC_get (i := i) (List.nodup_cons.mp nd).2 (by simpa using h1) (by simpa using h2) hk
def start (N : List Str) (vs : List V) : St := vs.map some ++ List.replicate (N.length - vs.length) none
def cxOf (CX : CXT) (P : Program) (w : World) (K : PySem.W.Frag) (mg : Str -> Option Value) (base : Heap) (N : List Str) (qual : Str) (scope : Scope) (f : Addr) (cd : Value) (A : Around) (outer : List Env) (s : Shared) (H : Hp) (E : XK) : Cx where
 prog := P
 w := w
 K := K
 mg := mg
 base := base
 A := A.deeper (envOfC qual scope s.heap.objs.size f cd)
 N := N
 s₀ := s
 H₀ := H
 env := envOfC qual scope s.heap.objs.size f cd
 outer := outer
 stack := envOfC qual scope s.heap.objs.size f cd :: outer
 ex := []
 calm := true
 fn := fun _ => true
 pn := []
 xe := fun e s' => wpAny (model P w) (A.deeper (envOfC qual scope s.heap.objs.size f cd)) (leaving (envOfC qual scope s.heap.objs.size f cd) e) (fun _ s'' => CX outer H s E e s'') (fun e' s'' => CX outer H s E e' s'') s'
theorem cell_has {sc : Scope} {n : Nat} {x : Str} (h : sc.names.lookup x = some .cell) : ∃ c, (cellsFrom n sc.names []).lookup x = some c := by
 have q := PySem.W.cellsFrom_some sc.names n [] (.inl h)
 exact Option.isSome_iff_exists.mp q
theorem inv_start {CX : CXT} {P : Program} {w : World} {K : PySem.W.Frag} {mg : Str -> Option Value} {base : Heap} {N ps : List Str} {qual : Str} {scope : Scope} {f : Addr} {cd : Value} {A : Around} {outer : List Env} {s s1 : Shared} {H : Hp} {E : XK} {us : List Value} {vs : List V}
  (S : FnScope N ps scope) (hd : A.handled = none) (e0 : Env0 P w K mg base A outer s H) (hl : vs.length = ps.length) (r : Vals vs us)
  (x : InCallC s s.heap.objs.size (bindL (envOfC qual scope s.heap.objs.size f cd).kindOf (ps.zip us) fun _ => none) (cellsFrom (s.heap.objs.size + 1) scope.names []) (bindC (envOfC qual scope s.heap.objs.size f cd).kindOf (ps.zip us) fun _ => none) s1) :
  Inv (cxOf CX P w K mg base N qual scope f cd A outer s H E) [] (start N vs) H s1 := by
 have hpl : ps.length <= N.length := by have := congrArg List.length S.pre; rw [List.length_take] at this; omega
 obtain ⟨h1, tk, rfl, hk⟩ := x.done
 have noA : ∀ b : Addr, b ∉ (cxOf CX P w K mg base N qual scope f cd A outer s H E).ex := fun b z => absurd (show b ∈ ([] : List Addr) from z) (by simp)
 refine ⟨⟨e0.mod, S.kind, rfl, rfl, Nat.le_refl _, fun y z c h1 h2 => ?_, fun y hy => ?_, fun y c _ h => ?_, fun _ => hd, Around.frames_deeper e0.frames, .inr ⟨rfl, rfl⟩, fun b z => absurd z (noA b), e0.bs, e0.bsz, fun b _ _ => noA b, fun b z => absurd z (noA b), e0.funs, e0.frf⟩,
  rfl, e0.bare, Un.kept hk, ⟨_, x.toInCall.ns, fun i y v h1 h2 h3 => ?_⟩, fun y c h => ⟨_, x.cell y c h⟩, e0.hok.fresh (Nat.le_refl _), fun y c h => ?_, fun p hp => absurd (show p ∈ ([] : List (Addr × Obj)) from hp) (by simp), e0.hok.kept hk, ?_⟩
 ·exact name_of_addr x.apart (PySem.mem_of_lookup h1) (PySem.mem_of_lookup h2)
 ·have hy : scope.names.lookup y = some .cell \/ scope.names.lookup y = some .free := hy
  rcases hy with hy | hy
  ·exact cell_has hy
  ·exact absurd rfl (S.nofree _ (PySem.mem_of_lookup hy))
 ·exact Nat.le_of_lt (x.above y c (PySem.mem_of_lookup h))
 ·have hi : i < vs.length := by
   unfold start at h2
   by_cases hi : i < vs.length
   ·exact hi
   ·rw [List.getElem?_append_right (by simpa using hi)] at h2
    rw [List.getElem?_replicate] at h2
    split at h2 <;> cases h2
  have ha : vs[i]? = some v := by
   unfold start at h2
   rw [List.getElem?_append_left (by simpa using hi), List.getElem?_map] at h2
   cases e : vs[i]? with
   | none => rw [e] at h2; cases h2
   | some a => rw [e] at h2; cases h2; rfl
  obtain ⟨u, hu, rv⟩ := r.get ha
  have hp : ps[i]? = some y := by
   rw [← S.pre, List.getElem?_take_of_lt (by omega)]; exact h1
  have ndP : ps.Nodup := by rw [← S.pre]; exact S.nd.sublist (List.take_sublist _ _)
  refine ⟨u, rv, ?_⟩
  rcases S.par y (List.mem_of_getElem? hp) with k | k
  ·exact .inl ⟨k, bindL_get ndP hp hu k⟩
  ·obtain ⟨c, e⟩ := cell_has (n := s.heap.objs.size + 1) k
   refine .inr ⟨.inl k, c, e, ?_⟩
   have q := x.cell y c e
   rw [bindC_get ndP hp hu (by show scope.names.lookup y ≠ _; rw [k]; decide)] at q
   exact q
 ·exact e0.hok.fresh (Nat.le_of_lt (x.above y c (PySem.mem_of_lookup h)))
 ·unfold start
  show _ = N.length
  rw [List.length_append, List.length_map, List.length_replicate]
  omega
theorem fn_of {CX : CXT} {P : Program} {w : World} {K : PySem.W.Frag} {mg : Str -> Option Value} {base : Heap} {k : Nat} {f : Addr} {name qual : Str} {params : Arguments} {body : List Stmt} {scope : Scope} {dV kV doc pm cdv ct oc : Value} {an od : Option Addr}
  {osl : Array (Option Value)} {N ps : List Str} {sp : Sp} (lk : K.lookup f = some ⟨oc, od, .func (PySem.W.fnOf name qual params body scope dV kV doc pm an cdv ct), osl⟩) (hcd : PySem.W.codeIn K cdv qual = true) (S : FnScope N ps scope)
  (len : ∀ vs H Q E, sp vs H Q E -> vs.length = ps.length)
  (hbody : ∀ (A : Around) (outer : List Env) (s : Shared) (H : Hp) (vs : List V) (Q : VK) (E : XK), Room k (A.deeper (envOfC qual scope s.heap.objs.size f cdv)) -> sp vs H Q E ->
   ∃ t, PSs (cxOf CX P w K mg base N qual scope f cdv A outer s H E) body t /\ t { nx := fun _ H' => Q .non H', rt := Q } (start N vs) H) :
  FnOk P w K mg base CX (k + 1) f (PySem.W.fnOf name qual params body scope dV kV doc pm an cdv ct) ps sp := by
 refine ⟨len, fun A outer s H args us vs Q E hr e0 hb r hsp => ?_⟩
 have hl := len _ _ _ _ hsp
 have KX : K.In s.heap := e0.mod.kin.keeps fun b o e => (e0.bs b o e).1
 have lim : s.heap.NoLimit := e0.mod.nolimit.keeps fun b o e => (e0.bs b o e).1
 have hkind : ∀ y ∈ ps.zip us, scope.names.lookup y.1 = some .local \/ (scope.names.lookup y.1 = some .cell /\ ((cellsFrom (s.heap.objs.size + 1) scope.names []).lookup y.1).isSome = true) := fun ⟨n, v⟩ hy => by
  rcases S.par n (List.of_mem_zip hy).1 with q | q
  ·exact .inl q
  ·exact .inr ⟨q, PySem.W.cellsFrom_some _ _ _ (.inl q)⟩
 refine codeAny_call_function hr.depth (KX _ _ lk) rfl S.co S.gen rfl (PySem.W.codeRec_of KX hcd) (hb _ _ _ _ ?_)
 refine wpAny_newFunctionEnv_cells S.kind hkind fun env he s1 x => ?_
 subst he
 refine ⟨lim.keeps x.toInCall.keep, codeAny_func ?_⟩
 obtain ⟨t, ht, hq⟩ := hbody A outer s H vs Q E (hr.deeper _) hsp
 have I : Inv (cxOf CX P w K mg base N qual scope f cdv A outer s H E) [] (start N vs) H s1 := inv_start S hr.hd e0 hl r x
 refine wpAny_mono (ht [] s1 (start N vs) H _ I hq) (fun fl s' hs => ?_) fun e s' hs => hs
 have fin : ∀ {σ' : St} {H' : Hp} {v : V} {u : Value}, Inv (cxOf CX P w K mg base N qual scope f cdv A outer s H E) [] σ' H' s' -> RelV v u -> Q v H' -> CE outer P w H s Q u s' :=
  fun {σ' H' v u} J rv q => ⟨v, H', J.os, J.bare, J.base, J.hok, rv, q⟩
 cases fl with
 | ret u =>
  obtain ⟨v, σ', H', J, rv, q⟩ := hs
  exact fin J rv q
 | next =>
  obtain ⟨σ', H', J, q⟩ := hs
  exact fin (v := V.non) (u := Value.none) J rfl q
 | brk =>
  obtain ⟨_, _, _, q⟩ := hs
  exact False.elim q
 | cont =>
  obtain ⟨_, _, _, q⟩ := hs
  exact False.elim q
end L2
namespace L2
open PySem PySem.Spec PyProof.Rows
section
variable {X : Cx} {x : Str} {p pos : Pos} {e : Expr} {es : List Expr} {t : TA} {id T : String} {r : List V -> Hp -> VK -> Prop}
def tCB (r : List V -> Hp -> VK -> Prop) (t : TA) : TE := fun σ H Q => t σ H fun vs H1 => r vs H1 Q
theorem pe_callB (hc : CallR X (.builtin id) r) (hg : Gl X x) (hm : X.mg x = none) (hv : bootBuiltins x = some (.builtin id)) (ha : PA X (e :: es) t) (hn : x ≠ "__name__" := by decide) (hdb : (x == ("__debug__" : Str)) = false := by decide)
  (he : starEach (e :: es) X.env = (false, eval e X.env) :: starEach es X.env := by rfl) (hpl : (backTo pos (starEach es X.env)).any (·.1) = false := by rfl) : PE X (.Call (.Name x p) (e :: es) [] pos) (tCB r t) := by
 (first | refine ⟨?_⟩ | skip); intro pins s σ H Q I h
 refine wpAny_Call_Name_kw (ld_blt I hg hm hv ?_ hn hdb)
 exact PyProof.Rows.callWith_builtin1 (thn (ha pos pins s σ H _ I h) fun us s1 ⟨vs, H1, I1, r1, q1⟩ => hc pins s1 σ H1 vs us Q I1 r1 q1) he hpl
theorem pe_callTy (hc : CallR X (.type T) r) (hg : Gl X x) (hm : X.mg x = none) (hv : bootBuiltins x = some (.type T)) (ha : PA X (e :: es) t) (hn : x ≠ "__name__" := by decide) (hdb : (x == ("__debug__" : Str)) = false := by decide)
  (he : starEach (e :: es) X.env = (false, eval e X.env) :: starEach es X.env := by rfl) (hpl : (backTo pos (starEach es X.env)).any (·.1) = false := by rfl) : PE X (.Call (.Name x p) (e :: es) [] pos) (tCB r t) := by
 (first | refine ⟨?_⟩ | skip); intro pins s σ H Q I h
 refine wpAny_Call_Name_kw (ld_blt I hg hm hv ?_ hn hdb)
 exact PyProof.Rows.callWith_type1 (thn (ha pos pins s σ H _ I h) fun us s1 ⟨vs, H1, I1, r1, q1⟩ => hc pins s1 σ H1 vs us Q I1 r1 q1) he hpl
end
end L2
namespace HT
open PySem PyProof.Rows
section
variable {prog : Program} {w : World} {A : Around} {E : Value -> Shared -> Prop} {s : Shared}
theorem cat_tup {t b : Addr} {vs ws : List Value} {Q : Value -> Shared -> Prop} (ht : IsTup s.heap t vs.toArray) (hb : IsTup s.heap b ws.toArray) (hv : vs ≠ [])
  (h1 : ws = [] -> Q (.ref t) s) (h2 : ws ≠ [] -> Q (.ref s.heap.objs.size) { s with heap := s.heap.push { cls := .type "tuple", data := .seq (vs ++ ws).toArray } })
  (hsz : vs.length + ws.length <= sizeLine) : wpAny (model prog w) A (binaryOp .Add (.ref t) (.ref b)) Q E s := by
 obtain ⟨⟨cls, dd, data, sl⟩, ho, hc, n, hd⟩ := id ht
 obtain ⟨⟨cls2, dd2, data2, sl2⟩, ho2, hc2, n2, hd2⟩ := id hb
 simp only at hc hd hc2 hd2
 subst hc hd hc2 hd2
 have e : vs.toArray ++ ws.toArray = (vs ++ ws).toArray := by simp
 by_cases hw : ws = []
 ·exact concat_meets ⟨_, ho, rfl⟩ ⟨_, ho2, rfl⟩ noFill_tuple_add seq_tuple_add PySem.F.slot_tuple_add PySem.F.entry_tuple_add (PySem.F.args_tuple_add_2 _ _)
   (tuple_addW1 t b vs.toArray ws.toArray n n2 dd dd2 sl sl2 (by simpa using hv) (by simp [hw])) ⟨ho, ho2, h1 hw⟩
 ·refine concat_meets ⟨_, ho, rfl⟩ ⟨_, ho2, rfl⟩ noFill_tuple_add seq_tuple_add PySem.F.slot_tuple_add PySem.F.entry_tuple_add (PySem.F.args_tuple_add_2 _ _)
   (tuple_addW2 t b vs.toArray ws.toArray n n2 dd dd2 sl sl2 (by simpa using hv) (by simpa using hw) (by rw [List.size_toArray, List.size_toArray]; exact hsz)) ⟨ho, ho2, ?_⟩
  rw [e]
  exact h2 hw
def sIx (n d : Nat) : Option Int -> Nat
 | none => d
 | some v => if v < 0 then (v + (n : Int)).toNat else min v.toNat n
theorem sIx_none (n d : Nat) : sIx n d none = d := rfl
theorem sIx_nat (n d k : Nat) : sIx n d (some (k : Int)) = min k n := by
 show (if (k : Int) < 0 then ((k : Int) + (n : Int)).toNat else min (k : Int).toNat n) = min k n
 rw [if_neg (by omega), Int.toNat_natCast]
theorem sIx_le (n d : Nat) (hd : d <= n) (o : Option Int) : sIx n d o <= n := by
 cases o with
 | none => exact hd
 | some v =>
  show (if v < 0 then (v + (n : Int)).toNat else min v.toNat n) <= n
  by_cases hv : v < 0
  ·rw [if_pos hv]; omega
  ·rw [if_neg hv]; exact Nat.min_le_right _ _
theorem clip_eq (v : Int) (n d : Nat) : (if v < 0 then max (v + (n : Int)) 0 else min v (n : Int)) = ((sIx n d (some v) : Nat) : Int) := by
 show (if v < 0 then max (v + (n : Int)) 0 else min v (n : Int)) = (((if v < 0 then (v + (n : Int)).toNat else min v.toNat n) : Nat) : Int)
 by_cases hv : v < 0
 ·simp only [if_pos hv]; omega
 ·simp only [if_neg hv]; omega
theorem adjust_gen (lo hi : Option Int) (n : Nat) : Builtin.Slice.sliceAdjust lo hi 1 (n : Int) = (((sIx n 0 lo : Nat) : Int), ((sIx n n hi : Nat) : Int)) := by
 have h1 : ¬ ((1 : Int) < 0) := by omega
 unfold Builtin.Slice.sliceAdjust
 simp only [h1, if_false]
 refine Prod.ext ?_ ?_
 ·cases lo with
  | none => rfl
  | some v => exact clip_eq v n 0
 ·cases hi with
  | none => rfl
  | some v => exact clip_eq v n n
theorem places_gen (i j : Nat) : Builtin.Slice.slicePlaces (i : Int) (j : Int) 1 = j - i := by
 unfold Builtin.Slice.slicePlaces
 have h1 : (1 : Int) > 0 := by omega
 simp only [h1, if_true, Int.ediv_one]
 split <;> omega
theorem slicePart_ {v : Value} {o : Option Int} {Q : Option Int -> Shared -> Prop} (p : IsPart v o) (h : Q o s) : wpAny (model prog w) A (Builtin.Slice.slicePartIndex v) Q E s := by
 cases p with
 | none => exact slicePart_none h
 | int i t => exact slicePart_int h
theorem sliceApplied_gen {sl : Addr} {vl vu : Value} {lo hi : Option Int} {n : Nat} {Q : Int × Int × Nat -> Shared -> Prop} (hs : s.heap.IsSliceOf sl vl vu .none) (pl : IsPart vl lo) (pu : IsPart vu hi)
  (h : Q (((sIx n 0 lo : Nat) : Int), 1, sIx n n hi - sIx n 0 lo) s) : wpAny (model prog w) A (Builtin.Slice.sliceApplied (.ref sl) (pure (n : Int))) Q E s := by
 obtain ⟨os, hos, hcs, hds⟩ := id hs
 unfold Builtin.Slice.sliceApplied Builtin.Slice.sliceFields
 refine wpAny_bind (wpAny_bind (wpAny_field hos hds (x := vl) rfl (wpAny_bind (wpAny_field hos hds (x := vu) rfl (wpAny_bind (wpAny_field hos hds (x := .none) rfl (wpAny_pure ?_)))))))
 refine wpAny_bind (slicePart_none ?_)
 show wpAny _ _ (if ((1 : Int) == 0) = true then _ else _) _ _ s
 rw [if_neg (by decide)]
 refine wpAny_bind (slicePart_ pl (wpAny_bind (slicePart_ pu (wpAny_bind (wpAny_pure ?_)))))
 show wpAny _ _ (match Builtin.Slice.sliceAdjust lo hi 1 (n : Int) with | (lo, hi) => pure (lo, (1 : Int), Builtin.Slice.slicePlaces lo hi 1)) _ _ s
 rw [adjust_gen lo hi n]
 show wpAny _ _ (pure (((sIx n 0 lo : Nat) : Int), (1 : Int), Builtin.Slice.slicePlaces ((sIx n 0 lo : Nat) : Int) ((sIx n n hi : Nat) : Int) 1)) _ _ s
 rw [places_gen]
 exact wpAny_pure h
theorem pick_gen (xs : Array Value) (i k : Nat) : ((List.range k).filterMap fun (m : Nat) => xs[((i : Int) + (m : Int) * 1).toNat]?).toArray = ((xs.toList.drop i).take k).toArray := by
 have e : (fun (m : Nat) => xs[((i : Int) + (m : Int) * 1).toNat]?) = fun m => xs[i + m]? := by
  funext m
  have : ((i : Int) + (m : Int) * 1).toNat = i + m := by omega
  rw [this]
 rw [e]
 have := pick_run xs i k
 rw [List.filterMap_map] at this
 have e2 : ((fun x => xs[x]?) ∘ fun x => i + x) = fun m => xs[i + m]? := rfl
 rw [e2] at this
 rw [this]
theorem getItem_tuple_cut {t sl : Addr} {items : Array Value} {vl vu : Value} {lo hi : Option Int} {Q : Value -> Shared -> Prop} (ht : IsTup s.heap t items) (hs : s.heap.IsSliceOf sl vl vu .none) (pl : IsPart vl lo) (pu : IsPart vu hi)
  (hw : ¬ (sIx items.size 0 lo = 0 /\ sIx items.size items.size hi = items.size))
  (h : Q (.ref s.heap.objs.size) { s with heap := s.heap.push { cls := .type "tuple", data := .seq ((items.toList.drop (sIx items.size 0 lo)).take (sIx items.size items.size hi - sIx items.size 0 lo)).toArray } })
  (hsz : items.size <= sizeLine) : wpAny (model prog w) A (getItem (.ref t) (.ref sl)) Q E s := by
 have htake : sizeOk (.seq ((items.toList.drop (sIx items.size 0 lo)).take (sIx items.size items.size hi - sIx items.size 0 lo)).toArray) := by
  show ((items.toList.drop (sIx items.size 0 lo)).take (sIx items.size items.size hi - sIx items.size 0 lo)).toArray.size <= sizeLine
  rw [List.size_toArray, List.length_take, List.length_drop, Array.length_toList]
  omega
 have hj : sIx items.size items.size hi <= items.size := sIx_le _ _ (Nat.le_refl _) hi
 obtain ⟨os, hos, hcs, hds⟩ := id hs
 have hTs : s.TypeIs (.ref sl) "slice" := ⟨os, hos, hcs⟩
 unfold getItem
 try with_reducible refine wpAny_holding ?_
 first | refine wpAny_bind (wpAny_pure ?_) | skip
 refine wpAny_bind (wpAny_sequenceKey ht.typeIs (by decide) ?_)
 refine wpAny_bind (wpAny_callSpecial?_slot (name := Str.ofString "__getitem__") ht.typeIs PyProof.Rows.slot_tuple_getitem
  (wpAny_call_entry PyProof.Rows.slot_tuple_getitem ht.typeIs entry_tuple_getitem ?_ (args_tuple_getitem _ _)))
 show wpAny _ _ (Builtin.Tuple.tupleItemsOf (.ref t) >>= _) _ _ s
 refine wpAny_bind (tupleItemsOf_ ht ?_)
 refine wpAny_bind (wpAny_typeOf hTs ?_)
 rw [if_pos (by decide)]
 refine wpAny_bind (sliceApplied_gen hs pl pu ?_)
 have hno : ¬ ((((sIx items.size 0 lo : Nat) : Int) == 0 && (1 : Int) == 1 && (sIx items.size items.size hi - sIx items.size 0 lo) == items.size) = true) := by
  intro q
  rw [Bool.and_eq_true, Bool.and_eq_true] at q
  have q1 : ((sIx items.size 0 lo : Nat) : Int) = 0 := eq_of_beq q.1.1
  have q2 : sIx items.size items.size hi - sIx items.size 0 lo = items.size := eq_of_beq q.2
  exact hw ⟨by omega, by omega⟩
 show wpAny _ _ (if (((sIx items.size 0 lo : Nat) : Int) == 0 && (1 : Int) == 1 && (sIx items.size items.size hi - sIx items.size 0 lo) == items.size) = true then _ else _) _ _ s
 rw [if_neg hno, pick_gen]
 first
  | exact wpAny_bind (m := Builtin.Tuple.tupleExact _) (wpAny_newObj_type (wpAny_pure ⟨_, rfl, wpAny_pure h⟩) htake)
  | exact wpAny_bind (m := Builtin.Tuple.tupleExact _) (wpAny_newObj_type (wpAny_bind (wpAny_pure (wpAny_pure ⟨_, rfl, wpAny_pure h⟩))) htake)
  | exact wpAny_bind (wpAny_bind (m := Builtin.Tuple.tupleExact _) (wpAny_newObj_type (wpAny_pure (wpAny_pure ⟨_, rfl, wpAny_pure h⟩)) htake))
  | exact wpAny_bind (wpAny_bind (m := Builtin.Tuple.tupleExact _) (wpAny_newObj_type (wpAny_pure ⟨_, rfl, wpAny_pure h⟩) htake))
end
end HT
namespace L2
open PySem PySem.Spec PyProof.Rows
abbrev TO := St -> Hp -> (Option Int -> Hp -> Prop) -> Prop
def PO (X : Cx) (e : Option Expr) (t : TO) : Prop :=
 ∀ (pins : List (Addr × Obj)) (s : Shared) (σ : St) (H : Hp) (Q : Option Int -> Hp -> Prop), Inv X pins σ H s -> t σ H Q ->
  wpAny (model X.prog X.w) X.A (evalPart e X.env) (fun u s' => ∃ o H', Inv X pins σ H' s' /\ IsPart u o /\ Q o H') X.xe s
def tNoPart : TO := fun _ H Q => Q none H
def tPart (t : TE) : TO := fun σ H Q => t σ H fun x H1 => ∃ i, x = .int i /\ Q (some i) H1
section
variable {X : Cx} {e : Expr} {te : TE} {lo hi : Option Expr} {tl th : TO} {pos p2 : Pos}
theorem po_none : PO X none tNoPart := by
 (first | refine ⟨?_⟩ | skip); intro pins s σ H Q I h
 rw [evalPart_none]
 exact wpAny_pure ⟨none, H, I, .none, h⟩
theorem po_some (h : PE X e te) : PO X (some e) (tPart te) := by
 (first | refine ⟨?_⟩ | skip); intro pins s σ H Q I hw
 rw [evalPart_some]
 refine thn (h pins s σ H _ I hw) fun u s1 ⟨x, H1, I1, r1, q1⟩ => ?_
 obtain ⟨i, rfl, q⟩ := q1
 obtain ⟨t, rfl⟩ := r1
 exact ⟨some i, H1, I1, .int i t, q⟩
def SlR (X : Cx) (r : V -> Option Int -> Option Int -> Hp -> VK -> Prop) : Prop :=
 ∀ (pins : List (Addr × Obj)) (s : Shared) (σ : St) (H : Hp) (x : V) (v vl vu : Value) (lo hi : Option Int) (sl : Addr) (Q : VK), Inv X pins σ H s -> RelV x v -> s.heap.IsSliceOf sl vl vu .none -> IsPart vl lo -> IsPart vu hi -> r x lo hi H Q ->
  ∃ T id, typeLookup (.type T) "__getitem__" = pure (some (.builtin id)) /\ s.TypeIs v T /\ wpAny (model X.prog X.w) X.A (getItem v (.ref sl)) (EP X pins σ Q) X.xe s
theorem SlR.or {r r' : V -> Option Int -> Option Int -> Hp -> VK -> Prop} (h : SlR X r) (h' : SlR X r') : SlR X (fun x lo hi H Q => r x lo hi H Q \/ r' x lo hi H Q) := by
 (first | refine ⟨?_⟩ | skip); intro pins s σ H x v vl vu lo hi sl Q I rx hs pl pu q
 rcases q with q | q
 ·exact h pins s σ H x v vl vu lo hi sl Q I rx hs pl pu q
 ·exact h' pins s σ H x v vl vu lo hi sl Q I rx hs pl pu q
def tSl (r : V -> Option Int -> Option Int -> Hp -> VK -> Prop) (te : TE) (tl th : TO) : TE := fun σ H Q => te σ H fun x H1 => tl σ H1 fun l H2 => th σ H2 fun u H3 => r x l u H3 Q
theorem pe_slice {r : V -> Option Int -> Option Int -> Hp -> VK -> Prop} (hr : SlR X r) (he : PE X e te) (hl : PO X lo tl) (hu : PO X hi th) : PE X (.Subscript e (.Slice lo hi none p2) pos) (tSl r te tl th) := by
 (first | refine ⟨?_⟩ | skip); intro pins s σ H Q I h
 refine Subscript_ (thn (he pins s σ H _ I h) fun v s1 ⟨x, H1, I1, r1, q1⟩ => ?_)
 refine wpAny_Slice (thn (hl pins s1 σ H1 _ I1 q1) fun vl s2 ⟨l, H2, I2, pl, q2⟩ => thn (hu pins s2 σ H2 _ I2 q2) fun vu s3 ⟨u, H3, I3, pu, q3⟩ => ?_)
 rw [evalPart_none]
 refine wpAny_pure ?_
 have I4 : Inv X pins σ H3 { s3 with heap := s3.heap.push { cls := .type "slice", data := .fields #[vl, vu, .none] } } := I3.kept (t' := s3.toks) fun b ob q => Heap.get?_push_of_some _ q
 obtain ⟨T, id, hT, ht, hg⟩ := hr pins { s3 with heap := s3.heap.push { cls := .type "slice", data := .fields #[vl, vu, .none] } } σ H3 x v vl vu l u s3.heap.objs.size Q I4 r1 (Heap.IsSliceOf.new ..) pl pu q3
 show wpAny (model X.prog X.w) X.A (subscriptTail e (.Slice lo hi none p2) v (.ref s3.heap.objs.size)) (EP X pins σ Q) X.xe { s3 with heap := s3.heap.push { cls := .type "slice", data := .fields #[vl, vu, .none] } }
 exact tail_any (ops := [.ref s3.heap.objs.size, v]) ht hT hg (by with_unfolding_all rfl)
def cutV (xs : List V) (lo hi : Option Int) : List V := (xs.drop (HT.sIx xs.length 0 lo)).take (HT.sIx xs.length xs.length hi - HT.sIx xs.length 0 lo)
theorem cutV_length (xs : List V) (lo hi : Option Int) : (cutV xs lo hi).length <= xs.length := by
 unfold cutV
 rw [List.length_take, List.length_drop]
 omega
def rSlT (K : PySem.W.Frag) : V -> Option Int -> Option Int -> Hp -> VK -> Prop := fun x lo hi H Q => ∃ a xs, x = .ref a /\ SqT K H a xs /\
 ¬ (HT.sIx xs.length 0 lo = 0 /\ HT.sIx xs.length xs.length hi = xs.length) /\ ∀ p, H p = none -> Q (.ref p) (upd H p (.tup (cutV xs lo hi)))
theorem sl_tup : SlR X (rSlT X.K) := by
 (first | refine ⟨?_⟩ | skip); intro pins s σ H x v vl vu lo hi sl Q I rx hs pl pu h
 obtain ⟨a, xs, rfl, hx, hw, q⟩ := h
 cases rx
 obtain ⟨its, r, ht, hz⟩ := I.tuple hx
 have hlen : its.toArray.size = xs.length := by rw [List.size_toArray]; exact r.length.symm
 refine ⟨"tuple", _, PyProof.Rows.slot_tuple_getitem.lookup, ht.typeIs, ?_⟩
 refine HT.getItem_tuple_cut ht hs pl pu (by rw [hlen]; exact hw) ?_ (by rw [hlen]; exact hz)
 rw [hlen]
 refine ⟨.ref s.heap.objs.size, _, I.laid (t' := s.toks) (o := .tup (cutV xs lo hi)) (fun b ob q => Heap.get?_push_of_some _ q) (Nat.le_refl _) ?_, rfl, q _ (I.hok.fresh (Nat.le_refl _))⟩
 exact ⟨Nat.le_trans (cutV_length xs lo hi) hz, _, (r.drop (HT.sIx xs.length 0 lo)).take (HT.sIx xs.length xs.length hi - HT.sIx xs.length 0 lo), IsTup.new _ _⟩
def rCatT (K : PySem.W.Frag) : R2 := fun x y H Q => ∃ a b xs ys, x = .ref a /\ y = .ref b /\ SqT K H a xs /\ SqT K H b ys /\ xs ≠ [] /\ xs.length + ys.length <= sizeLine /\
 (ys = [] -> Q (.ref a) H) /\ (ys ≠ [] -> ∀ p, H p = none -> Q (.ref p) (upd H p (.tup (xs ++ ys))))
theorem Vals.nil_iff {xs : List V} {us : List Value} (r : Vals xs us) : us = [] ↔ xs = [] := by
 cases r with
 | nil => simp
 | cons _ _ => simp
theorem op_catT : OpR X (binaryOp .Add) (rCatT X.K) := by
 (first | refine ⟨?_⟩ | skip); intro pins s σ H x y v u Q I rx ry h
 obtain ⟨a, b, xs, ys, rfl, rfl, ha, hb, hx, hz, q1, q2⟩ := h
 cases rx
 cases ry
 obtain ⟨its, r1, p1, _⟩ := I.tuple ha
 obtain ⟨its2, r2, p2, _⟩ := I.tuple hb
 refine HT.cat_tup p1 p2 (fun z => hx (r1.nil_iff.mp z)) (fun z => ⟨.ref a, H, I, rfl, q1 (r2.nil_iff.mp z)⟩) (fun z => ?_) (by rw [← r1.length, ← r2.length]; exact hz)
 refine ⟨.ref s.heap.objs.size, _, I.laid (t' := s.toks) (o := .tup (xs ++ ys)) (fun b ob q => Heap.get?_push_of_some _ q) (Nat.le_refl _) ?_, rfl, q2 (fun w => z (r2.nil_iff.mpr w)) _ (I.hok.fresh (Nat.le_refl _))⟩
 exact ⟨by rw [List.length_append]; exact hz, _, r1.append r2, IsTup.new _ _⟩
end
end L2
namespace L2
open PySem PySem.Spec PyProof.Rows
def ixN (n : Nat) (i : Int) : Option Nat := if 0 <= i then (if i < n then some i.toNat else none) else if -(n : Int) <= i then some (i + n).toNat else none
def atI {α : Type} (xs : List α) (i : Int) : Option α := (ixN xs.length i).bind fun j => xs[j]?
theorem ixN_seq {n : Nat} {i : Int} {j : Nat} (h : ixN n i = some j) : seqIndex? i n = some j /\ j < n /\ -(n : Int) <= i /\ i < n := by
 unfold ixN at h
 by_cases h0 : 0 <= i
 ·rw [if_pos h0] at h
  by_cases h1 : i < n
  ·rw [if_pos h1] at h
   have e : i.toNat = j := Option.some.inj h
   exact ⟨by rw [seqIndex_of h0 h1, e], by omega, by omega, h1⟩
  ·rw [if_neg h1] at h; cases h
 ·rw [if_neg h0] at h
  by_cases h1 : -(n : Int) <= i
  ·rw [if_pos h1] at h
   have e : (i + n).toNat = j := Option.some.inj h
   exact ⟨by rw [seqIndex_neg (by omega) h1, e], by omega, h1, by omega⟩
  ·rw [if_neg h1] at h; cases h
theorem atI_get {α : Type} {xs : List α} {i : Int} {v : α} (h : atI xs i = some v) : ∃ j, seqIndex? i xs.length = some j /\ xs[j]? = some v /\ j < xs.length /\ -(xs.length : Int) <= i /\ i < xs.length := by
 unfold atI at h
 cases e : ixN xs.length i with
 | none => rw [e] at h; cases h
 | some j =>
  rw [e] at h
  obtain ⟨h1, h2, h3, h4⟩ := ixN_seq e
  exact ⟨j, h1, h, h2, h3, h4⟩
theorem atI_nat {α : Type} {xs : List α} {j : Nat} {v : α} (h : xs[j]? = some v) : atI xs (j : Int) = some v := by
 have hj : j < xs.length := (List.getElem?_eq_some_iff.mp h).1
 have e : ixN xs.length (j : Int) = some j := by
  unfold ixN
  rw [if_pos (by omega), if_pos (by omega)]; simp
 unfold atI; rw [e]; exact h
def PlainIx (b : Expr) : Prop := ∀ o i, subscripted b false o i = operate [o, i] (getItem o i)
def IxR (X : Cx) (r : R2) : Prop :=
 ∀ (value slice : Expr) (pins : List (Addr × Obj)) (s : Shared) (σ : St) (H : Hp) (x y : V) (v u : Value) (Q : VK), Inv X pins σ H s -> RelV x v -> RelV y u -> r x y H Q ->
  subscripted slice false v u = operate [v, u] (getItem v u) -> wpAny (model X.prog X.w) X.A (subscriptTail value slice v u) (EP X pins σ Q) X.xe s
def MtR (X : Cx) (id : String) (r : V -> List V -> Hp -> VK -> Prop) : Prop :=
 ∀ (pins : List (Addr × Obj)) (s : Shared) (σ : St) (H : Hp) (x : V) (xs : List V) (v : Value) (us : List Value) (Q : VK), Inv X pins σ H s -> RelV x v -> Vals xs us -> r x xs H Q ->
  wpAny (model X.prog X.w) X.A (call (.builtin id) (v :: us)) (EP X pins σ Q) X.xe s
section
variable {X : Cx} {a b : Expr} {ta tb : TE} {pos : Pos}
theorem IxR.or {r r' : R2} (h : IxR X r) (h' : IxR X r') : IxR X (fun x y H Q => r x y H Q \/ r' x y H Q) := by
 intro value slice pins s σ H x y v u Q I rx ry q hs
 rcases q with q | q
 ·exact h value slice pins s σ H x y v u Q I rx ry q hs
 ·exact h' value slice pins s σ H x y v u Q I rx ry q hs
theorem MtR.or {id : String} {r r' : V -> List V -> Hp -> VK -> Prop} (h : MtR X id r) (h' : MtR X id r') : MtR X id (fun x xs H Q => r x xs H Q \/ r' x xs H Q) := by
 (first | refine ⟨?_⟩ | skip); intro pins s σ H x xs v us Q I rx rs q
 rcases q with q | q
 ·exact h pins s σ H x xs v us Q I rx rs q
 ·exact h' pins s σ H x xs v us Q I rx rs q
theorem pe_ix {r : R2} (hr : IxR X r) (ha : PE X a ta) (hb : PE X b tb) (hs : PlainIx b) : PE X (.Subscript a b pos) (tOp r ta tb) := by
 (first | refine ⟨?_⟩ | skip); intro pins s σ H Q I h
 exact Subscript_ (binT ha hb I h fun v u s2 x y H2 I2 rx ry q => hr a b pins s2 σ H2 x y v u Q I2 rx ry q (hs _ _))
def rIxL (K : PySem.W.Frag) : R2 := fun x y H Q => ∃ p xs i v, x = .ref p /\ y = .int i /\ SqL K H p xs /\ atI xs i = some v /\ Q v H
def rIxT (K : PySem.W.Frag) : R2 := fun x y H Q => ∃ p xs i v, x = .ref p /\ y = .int i /\ SqT K H p xs /\ atI xs i = some v /\ Q v H
def rIxS : R2 := fun x y H Q => ∃ z i c, x = .str z /\ y = .int i /\ z.length <= sizeLine /\ atI z.cps.toList i = some c /\ Q (.str ⟨#[c]⟩) H
theorem ix_list : IxR X (rIxL X.K) := by
 intro value slice pins s σ H x y v u Q I rx ry h hs
 obtain ⟨p, xs, i, z, rfl, rfl, hq, he, q⟩ := h
 cases rx
 obtain ⟨t, rfl⟩ := ry
 obtain ⟨its, r, pl, hz⟩ := I.list hq
 obtain ⟨j, h1, h2, h3, h4, h5⟩ := atI_get he
 obtain ⟨w, ew, rw'⟩ := r.get h2
 have hl := r.length
 have hn := line63
 have fin : EP X pins σ Q w s := ⟨z, H, I, rw', q⟩
 by_cases h0 : 0 <= i
 ·have hj : i.toNat = j := by
   rw [seqIndex_of h0 h5] at h1
   exact Option.some.inj h1
  exact item_listR pl.isList h0 (by omega) (by rw [hj]; simpa using ew) fin hs
 ·have hj : (i + (its.toArray.size : Int)).toNat = j := by
   rw [seqIndex_neg (by omega) h4] at h1
   rw [List.size_toArray, ← hl]
   exact Option.some.inj h1
  exact subscriptTail_builtinR (x := w) pl.isList.typeIs slot_list_getitem.lookup
   (wpAny_getItem_list_neg (Q := fun r s' => r = w /\ EP X pins σ Q r s') pl.isList (by omega) (by rw [List.size_toArray] <;> omega) (by omega) (by rw [hj]; simpa using ew) ⟨rfl, fin⟩) hs
theorem ix_tup : IxR X (rIxT X.K) := by
 intro value slice pins s σ H x y v u Q I rx ry h hs
 obtain ⟨p, xs, i, z, rfl, rfl, hq, he, q⟩ := h
 cases rx
 obtain ⟨t, rfl⟩ := ry
 obtain ⟨its, r, pl, hz⟩ := I.tuple hq
 obtain ⟨j, h1, h2, h3, h4, h5⟩ := atI_get he
 obtain ⟨w, ew, rw'⟩ := r.get h2
 have hl := r.length
 have hn := line63
 have fin : EP X pins σ Q w s := ⟨z, H, I, rw', q⟩
 exact subscriptTail_builtinR (x := w) pl.typeIs slot_tuple_getitem.lookup
  (getItem_tuple (j := j) (Q := fun r s' => r = w /\ EP X pins σ Q r s') pl (by omega) (by omega) (by rw [List.size_toArray, ← hl]; exact h1) (by simpa using ew) ⟨rfl, fin⟩) hs
theorem ix_str : IxR X rIxS := by
 intro value slice pins s σ H x y v u Q I rx ry h hs
 obtain ⟨z, i, c, rfl, rfl, hz, he, q⟩ := h
 obtain ⟨t, rfl⟩ := rx
 obtain ⟨t', rfl⟩ := ry
 obtain ⟨j, h1, h2, h3, h4, h5⟩ := atI_get he
 have hl : z.cps.toList.length = z.length := by simp [Str.length]
 rw [hl] at h1 h4 h5
 have hn := line63
 exact tail_any (typeIs_str s z t) slot_str_getitem.lookup (getItem_str (c := c) (by
  have e1 : decide (i < -(2 ^ 63 : Int)) = false := decide_eq_false (by omega)
  have e2 : decide (i ≥ 2 ^ 63) = false := decide_eq_false (by omega)
  rw [e1, e2, Bool.or_false]) (by rw [h1]; simpa using h2) ⟨.str ⟨#[c]⟩, H, I.tok _, ⟨_, rfl⟩, q⟩) hs
def rIx (K : PySem.W.Frag) : R2 := fun x y H Q => rIxL K x y H Q \/ rIxT K x y H Q \/ rIxS x y H Q
theorem ix_seq : IxR X (rIx X.K) := ix_list.or (ix_tup.or ix_str)
theorem mapSeq_set (its : List Value) (n j : Nat) (u : Value) : Obj.mapSeq (·.setIfInBounds j u) { cls := .type "list", data := .seq its.toArray n } = { cls := .type "list", data := .seq (its.set j u).toArray n } := by
 simp [Obj.mapSeq]
theorem Inv.lst {pins : List (Addr × Obj)} {σ : St} {H : Hp} {s : Shared} {p : Addr} {xs : List V} (I : Inv X pins σ H s) (h : H p = some (.lst xs)) :
  ∃ (its : List Value) (n : Nat), Vals xs its /\ s.heap.get? p = some { cls := .type "list", data := .seq its.toArray n } /\ xs.length <= sizeLine := by
 obtain ⟨z, its, n, r, e⟩ := I.hok p _ h
 exact ⟨its, n, r, e, z⟩
theorem Inv.lstUpd {pins : List (Addr × Obj)} {σ : St} {H : Hp} {s : Shared} {p : Addr} {xs ys : List V} {its its' : List Value} {n n' : Nat} {f : Obj -> Obj} (I : Inv X pins σ H s) (h : H p = some (.lst xs))
  (ho : s.heap.get? p = some { cls := .type "list", data := .seq its.toArray n }) (hf : f { cls := .type "list", data := .seq its.toArray n } = { cls := .type "list", data := .seq its'.toArray n' }) (r : Vals ys its') (hz : ys.length <= sizeLine) (t : Nat) :
  Inv X pins σ (upd H p (.lst ys)) { s with heap := s.heap.update p f, toks := t } := by
 have e : (s.heap.update p f).get? p = some { cls := .type "list", data := .seq its'.toArray n' } := by
  rw [Heap.get?_update_self f ho (by rw [hf] <;> rfl), hf]
 refine I.write (x := p) (e := p) (by rw [h]; trivial) (.inl rfl) (fun b u hb q => (Heap.get?_update_other _ _ (Ne.symm hb)).trans q) ⟨_, e⟩ ?_
 exact ⟨hz, its', n', r, e⟩
def rSetL : V -> V -> V -> Hp -> (Hp -> Prop) -> Prop := fun o i v H Q => ∃ p xs k j, o = .ref p /\ i = .int k /\ H p = some (.lst xs) /\ ixN xs.length k = some j /\ Q (upd H p (.lst (xs.set j v)))
theorem set_list : PSet X rSetL := by
 (first | refine ⟨?_⟩ | skip); intro pins s σ H o i v ov iv u Q I ro ri rv h
 obtain ⟨p, xs, k, j, rfl, rfl, hp, hj, q⟩ := h
 cases ro
 obtain ⟨t, rfl⟩ := ri
 obtain ⟨its, n, r, ho, hz⟩ := I.lst hp
 obtain ⟨h1, h2, h3, h4⟩ := ixN_seq hj
 have hl := r.length
 have hn := line63
 have I' : Inv X pins σ (upd H p (.lst (xs.set j v))) { s with heap := s.heap.update p (Obj.mapSeq (·.setIfInBounds j u)) } :=
  I.lstUpd hp ho (mapSeq_set its n j u) (r.set rv j) (by rw [List.length_set]; exact hz) s.toks
 by_cases h0 : 0 <= k
 ·have hk : k.toNat = j := by
   rw [seqIndex_of h0 h4] at h1
   exact Option.some.inj h1
  exact PySem.W.ki_setAt ho h0 (by omega) (by rw [List.size_toArray, ← hl]; exact h4) (by rw [hk]; exact ⟨_, I', q⟩)
 ·have hk : (k + (its.toArray.size : Int)).toNat = j := by
   rw [seqIndex_neg (by omega) h3] at h1
   rw [List.size_toArray, ← hl]
   exact Option.some.inj h1
  exact PySem.W.ki_setBack ho (by omega) (by rw [List.size_toArray, ← hl]; exact h3) (by omega) (by rw [hk]; exact ⟨_, I', q⟩)
theorem slice_bounds (lo hi : Option Int) (n : Nat) : (sliceBounds lo hi none n).1 = ((HT.sIx n 0 lo : Nat) : Int) /\ (sliceBounds lo hi none n).2.1 = ((HT.sIx n n hi : Nat) : Int) /\ (sliceBounds lo hi none n).2.2 = 1 := by
 refine ⟨?_, ?_, rfl⟩
 ·cases lo with
  | none => simp [sliceBounds, HT.sIx]
  | some i =>
   simp only [sliceBounds, HT.sIx, Option.getD_none, show (1 : Int) > 0 by decide, if_true]
   by_cases h : i < 0
   ·simp only [h, if_true] <;> omega
   ·simp only [h, if_false] <;> omega
 ·cases hi with
  | none => simp [sliceBounds, HT.sIx]
  | some i =>
   simp only [sliceBounds, HT.sIx, Option.getD_none, show (1 : Int) > 0 by decide, if_true]
   by_cases h : i < 0
   ·simp only [h, if_true] <;> omega
   ·simp only [h, if_false] <;> omega
theorem slicePick_cut (its : List Value) (lo hi : Option Int) : slicePick its.toArray lo hi none = ((its.drop (HT.sIx its.length 0 lo)).take (HT.sIx its.length its.length hi - HT.sIx its.length 0 lo)).toArray := by
 obtain ⟨h1, h2, h3⟩ := slice_bounds lo hi its.toArray.size
 unfold slicePick
 rw [h1, h2, h3]
 simp only [sliceRange_one, pick_run, List.size_toArray] <;> rfl
def rSlL (K : PySem.W.Frag) : V -> Option Int -> Option Int -> Hp -> VK -> Prop := fun x lo hi H Q => ∃ a xs, x = .ref a /\ SqL K H a xs /\ ∀ p, H p = none -> Q (.ref p) (upd H p (.lst (cutV xs lo hi)))
theorem sl_list : SlR X (rSlL X.K) := by
 (first | refine ⟨?_⟩ | skip); intro pins s σ H x v vl vu lo hi sl Q I rx hs pl pu h
 obtain ⟨a, xs, rfl, hx, q⟩ := h
 cases rx
 obtain ⟨its, r, ht, hz⟩ := I.list hx
 have hlen := r.length
 refine ⟨"list", _, slot_list_getitem.lookup, ht.isList.typeIs, ?_⟩
 refine wpAny_getItem_list_slice ht.isList hs pl pu .none (by simp) ?_ (by rw [List.size_toArray] <;> omega)
 rw [slicePick_cut, ← hlen]
 refine ⟨.ref s.heap.objs.size, _, I.laid (t' := s.toks) (o := .lst (cutV xs lo hi)) (fun b ob q => Heap.get?_push_of_some _ q) (Nat.le_refl _) ?_, rfl, q _ (I.hok.fresh (Nat.le_refl _))⟩
 exact ⟨Nat.le_trans (cutV_length xs lo hi) hz, _, 0, (r.drop (HT.sIx xs.length 0 lo)).take (HT.sIx xs.length xs.length hi - HT.sIx xs.length 0 lo), Heap.get?_push_size _ rfl⟩
theorem call_len_seq : CallR X (.builtin "len") (fun xs H Q => ∃ p ys, xs = [.ref p] /\ (SqL X.K H p ys \/ SqT X.K H p ys) /\ Q (.int ys.length) H) := by
 (first | refine ⟨?_⟩ | skip); intro pins s σ H xs us Q I r h
 obtain ⟨p, ys, rfl, hq, q⟩ := h
 obtain ⟨u, rfl, rx⟩ := vals1 r
 cases rx
 have hn := line63
 rcases hq with hq | hq
 ·obtain ⟨its, r', pl, hz⟩ := I.list hq
  have hlen := r'.length
  exact Calls.call_len_list pl.isList (by simp only [List.size_toArray] <;> omega) ⟨.int ys.length, H, I.tok _, ⟨s.toks + 1, by rw [List.size_toArray, hlen]⟩, q⟩
 ·obtain ⟨its, r', pl, hz⟩ := I.tuple hq
  have hlen := r'.length
  exact len_tuple pl (by simp only [List.size_toArray] <;> omega) ⟨.int ys.length, H, I.tok _, ⟨s.toks + 1, by rw [List.size_toArray, hlen]⟩, q⟩
theorem call_len_str : CallR X (.builtin "len") (fun xs H Q => ∃ z, xs = [.str z] /\ z.length <= sizeLine /\ Q (.int z.length) H) := by
 (first | refine ⟨?_⟩ | skip); intro pins s σ H xs us Q I r h
 obtain ⟨z, rfl, hz, q⟩ := h
 obtain ⟨u, rfl, t, rfl⟩ := vals1 r
 have hn := line63
 exact len_str (by omega) ⟨.int z.length, H, I.tok _, ⟨_, rfl⟩, q⟩
theorem call_list_of : CallR X (.type "list") (fun xs H Q => ∃ p ys, xs = [.ref p] /\ (SqL X.K H p ys \/ SqT X.K H p ys) /\ ∀ l, H l = none -> Q (.ref l) (upd H l (.lst ys))) := by
 (first | refine ⟨?_⟩ | skip); intro pins s σ H xs us Q I r h
 obtain ⟨p, ys, rfl, hq, q⟩ := h
 obtain ⟨u, rfl, rx⟩ := vals1 r
 cases rx
 have fin : ∀ (its : List Value), Vals ys its -> ys.length <= sizeLine -> ∀ (h' : Heap) (c' : Nat), (∀ b o', s.heap.get? b = some o' -> h'.get? b = some o') ->
   h'.get? s.heap.objs.size = some { cls := .type "list", dict := none, data := .seq its.toArray c', slots := #[] } -> EP X pins σ Q (.ref s.heap.objs.size) { s with heap := h' } := fun its r' hz h' c' kp e =>
  ⟨.ref s.heap.objs.size, _, I.laid (t' := s.toks) kp (Nat.le_refl _) (show ObjOk X.prog X.w _ h' _ (.lst ys) from ⟨hz, its, c', r', e⟩), rfl, q _ (I.hok.fresh (Nat.le_refl _))⟩
 rcases hq with hq | hq
 ·obtain ⟨its, r', pl, hz⟩ := I.list hq
  have hlen := r'.length
  obtain ⟨o, ho, hc, n, hd⟩ := pl.isList
  exact call_list_seq p (.inl rfl) ho hc hd (fun h' c' kp e => fin its r' hz h' c' kp e) (by simp only [List.size_toArray] <;> omega)
 ·obtain ⟨its, r', pl, hz⟩ := I.tuple hq
  have hlen := r'.length
  obtain ⟨o, ho, hc, n, hd⟩ := pl
  exact call_list_seq p (.inr rfl) ho hc hd (fun h' c' kp e => fin its r' hz h' c' kp e) (by simp only [List.size_toArray] <;> omega)
theorem call_tuple_of : CallR X (.type "tuple") (fun xs H Q => ∃ p ys, xs = [.ref p] /\ ((SqL X.K H p ys /\ ∀ l, H l = none -> Q (.ref l) (upd H l (.tup ys))) \/ (SqT X.K H p ys /\ Q (.ref p) H))) := by
 (first | refine ⟨?_⟩ | skip); intro pins s σ H xs us Q I r h
 obtain ⟨p, ys, rfl, h⟩ := h
 obtain ⟨u, rfl, rx⟩ := vals1 r
 cases rx
 rcases h with ⟨hq, q⟩ | ⟨hq, q⟩
 ·obtain ⟨its, r', pl, hz⟩ := I.list hq
  have hlen := r'.length
  refine call_tuple_list pl.isList (fun h' kp => ?_) (by simp only [List.size_toArray] <;> omega)
  have I1 : Inv X pins σ H { s with heap := h' } := I.kept (t' := s.toks) kp
  have I2 : Inv X pins σ (upd H h'.objs.size (.tup ys)) { s with heap := h'.push { cls := .type "tuple", data := .seq its.toArray } } :=
   I1.laid (t' := s.toks) (fun b o e => Heap.get?_push_of_some _ e) (Nat.le_refl _) (show ObjOk X.prog X.w _ _ _ (.tup ys) from ⟨hz, its, r', IsTup.new _ _⟩)
  exact ⟨.ref h'.objs.size, _, I2, rfl, q _ (I1.hok.fresh (Nat.le_refl _))⟩
 ·obtain ⟨its, r', pl, hz⟩ := I.tuple hq
  exact call_tuple_same pl ⟨.ref p, H, I, rfl, q⟩
def tyV (K : PySem.W.Frag) (T : String) (x : V) (H : Hp) : Prop := match x with
 | .str _ => T = "str"
 | .int _ => T = "int"
 | .ref p => (T = "list" /\ ∃ xs, SqL K H p xs) \/ (T = "tuple" /\ ∃ o, K.lookup p = some o /\ o.cls = .type "tuple" /\ o.dict = none) \/
   (T = "dict" /\ ((∃ kvs, H p = some (.dK kvs)) \/ ∃ kvs, H p = some (.dT kvs))) \/ (T = "set" /\ ∃ S n, H p = some (.set S n))
 | _ => False
theorem tyV_is {pins : List (Addr × Obj)} {σ : St} {H : Hp} {s : Shared} {T : String} {x : V} {v : Value} (I : Inv X pins σ H s) (r : RelV x v) (ty : tyV X.K T x H) :
  s.TypeIs v T /\ ∀ a, v = .ref a -> ∃ ob, s.heap.get? a = some ob /\ ob.dict = none := by
 cases x with
 | str z =>
  obtain ⟨t, rfl⟩ := r
  cases (show T = "str" from ty)
  exact ⟨typeIs_str s z t, fun _ e => nomatch e⟩
 | int i =>
  obtain ⟨t, rfl⟩ := r
  cases (show T = "int" from ty)
  exact ⟨typeIs_int s i t, fun _ e => nomatch e⟩
 | ref p =>
  cases r
  rcases ty with ⟨rfl, xs, hq⟩ | ⟨rfl, o, hk, hc, hd⟩ | ⟨rfl, hk⟩ | ⟨rfl, S, n, hk⟩
  ·obtain ⟨its, _, pl, _⟩ := I.list hq
   refine ⟨pl.isList.typeIs, fun a e => ?_⟩
   cases e
   obtain ⟨o, n, e, c, hd, _⟩ := pl
   exact ⟨o, e, hd⟩
  ·refine ⟨⟨o, I.kIn p o hk, hc⟩, fun a e => ?_⟩
   cases e
   exact ⟨o, I.kIn _ o hk, hd⟩
  ·have z : ∃ o, s.heap.get? p = some o /\ o.ExactDict := by
    rcases hk with ⟨kvs, hk⟩ | ⟨kvs, hk⟩
    ·obtain ⟨_, _, _, _, o, _, _, e, ex, _⟩ := I.hok p _ hk
     exact ⟨o, e, ex⟩
    ·obtain ⟨_, _, _, _, o, _, _, e, ex, _⟩ := I.hok p _ hk
     exact ⟨o, e, ex⟩
   obtain ⟨o, e, ex⟩ := z
   refine ⟨⟨o, e, ex.1⟩, fun a e2 => ?_⟩
   cases e2
   exact ⟨o, e, ex.2.1⟩
  ·obtain ⟨o, _, _, _, e, ex, _⟩ := I.hok p _ hk
   refine ⟨⟨o, e, ex.1⟩, fun a e2 => ?_⟩
   cases e2
   exact ⟨o, e, ex.2.1⟩
 | _ => exact False.elim ty
def tBM0 (K : PySem.W.Frag) (T : String) (r : V -> List V -> Hp -> VK -> Prop) (to : TE) : TE := fun σ H Q => to σ H fun x H1 => tyV K T x H1 /\ r x [] H1 Q
def tBM (K : PySem.W.Frag) (T : String) (r : V -> List V -> Hp -> VK -> Prop) (to : TE) (t : TA) : TE := fun σ H Q => to σ H fun x H1 => tyV K T x H1 /\ t σ H1 fun xs H2 => r x xs H2 Q
variable {o e : Expr} {es : List Expr} {to : TE} {t : TA} {name : Str} {apos cpos : Pos} {T id : String} {r : V -> List V -> Hp -> VK -> Prop}
theorem pe_bm0 (pa : PlainAttrs T) (slot : Slot T name id) (hty : typeOf (.builtin id) = pure (.type "method_descriptor")) (hm : MtR X id r) (ho : PE X o to)
  (hbase : attributeBase o name X.env (eval o X.env) = eval o X.env := by rfl) (hline : (apos.endLine == cpos.line) = true := by rfl) : PE X (.Call (.Attribute o name apos) [] [] cpos) (tBM0 X.K T r to) := by
 (first | refine ⟨?_⟩ | skip); intro pins s σ H Q I h
 refine wpAny_Call_method0_late hbase hline (thn (ho pins s σ H _ I h) fun v s1 ⟨x, H1, I1, r1, ty, q1⟩ => ?_)
 obtain ⟨h1, h2⟩ := tyV_is I1 r1 ty
 exact ⟨T, id, pa, slot, hty, h1, h2, Calls.callWith_builtin rfl (PySem.evalArgs_none (hm pins s1 σ H1 x [] v [] Q I1 r1 .nil q1))⟩
theorem pe_bm (pa : PlainAttrs T) (slot : Slot T name id) (hty : typeOf (.builtin id) = pure (.type "method_descriptor")) (hm : MtR X id r) (ho : PE X o to) (ha : PA X (e :: es) t)
  (hbase : attributeBase o name X.env (eval o X.env) = eval o X.env := by rfl)
  (hfew : ((backTo cpos (starEach (e :: es) X.env)).all (fun x => !x.1) && (backToKw cpos (keywordEach [] X.env)).all (fun x => x.1.isSome)
   && decide ((e :: es).length + ([] : List Keyword).length + (if ([] : List Keyword).isEmpty then 0 else 1) < 30)) = true := by rfl)
  (hline : (apos.endLine == cpos.line) = true := by rfl) (hs : starEach (e :: es) X.env = (false, eval e X.env) :: starEach es X.env := by rfl) (hplain : (backTo cpos (starEach es X.env)).any (·.1) = false := by rfl) :
  PE X (.Call (.Attribute o name apos) (e :: es) [] cpos) (tBM X.K T r to t) := by
 (first | refine ⟨?_⟩ | skip); intro pins s σ H Q I h
 refine wpAny_Call_method_late hbase hfew hline rfl (thn (ho pins s σ H _ I h) fun v s1 ⟨x, H1, I1, r1, ty, q1⟩ => ?_)
 obtain ⟨h1, h2⟩ := tyV_is I1 r1 ty
 refine ⟨T, id, pa, slot, hty, h1, h2, ?_⟩
 have hA := ha cpos pins s1 σ H1 _ I1 q1
 rw [hs] at hA ⊢
 refine Calls.callWith_builtin (by show (false || (backTo cpos (starEach es X.env)).any (·.1)) = false; rw [hplain] <;> rfl) (Calls.evalArgs_plain ?_)
 exact thn hA fun us s2 ⟨vs, H2, I2, r2, q2⟩ => hm pins s2 σ H2 x vs v us Q I2 r1 r2 q2
end
end L2
namespace L2
open PySem PySem.Spec PyProof.Rows
def MtM (X : Cx) (id : String) (r : V -> List V -> Hp -> VK -> Prop) : Prop :=
 ∀ (pins : List (Addr × Obj)) (s : Shared) (σ : St) (H : Hp) (x : V) (xs : List V) (v : Value) (us : List Value) (Q : VK), Inv X pins σ H s -> RelV x v -> Vals xs us -> r x xs H Q ->
  wpAny (model X.prog X.w) X.A (call (.builtin id) (v :: us)) (EP X pins σ Q) X.xe s
theorem Vals.one : ∀ {x : V} {us : List Value}, Vals [x] us -> ∃ u, us = [u] /\ RelV x u
 | _, _, .cons r .nil => ⟨_, rfl, r⟩
theorem Vals.two : ∀ {x y : V} {us : List Value}, Vals [x, y] us -> ∃ u v, us = [u, v] /\ RelV x u /\ RelV y v
 | _, _, _, .cons r (.cons q .nil) => ⟨_, _, rfl, r, q⟩
theorem Vals.zero : ∀ {us : List Value}, Vals [] us -> us = []
 | _, .nil => rfl
theorem Vals.reverse {xs : List V} {us : List Value} (h : Vals xs us) : Vals xs.reverse us.reverse := by
 induction h with
 | nil => exact .nil
 | cons r t ih => rw [List.reverse_cons, List.reverse_cons]; exact Vals.append ih (.cons r .nil)
section
variable {X : Cx} {pins : List (Addr × Obj)} {σ : St} {H : Hp} {s : Shared} {l b : Addr} {xs ys zs : List V}
theorem Inv.lset {its its' : List Value} {n : Nat} {f : Array Value -> Array Value} {t' : Nat} (I : Inv X pins σ H s) (hH : H l = some (.lst xs))
  (e : s.heap.get? l = some { cls := .type "list", data := .seq its.toArray n }) (hf : f its.toArray = its'.toArray) (hv : Vals ys its') (hz : ys.length <= sizeLine) :
  Inv X pins σ (upd H l (.lst ys)) { s with heap := s.heap.update l (Obj.mapSeq f), toks := t' } := by
 have q := PySem.IsL.update e f
 rw [hf] at q
 refine I.write (x := l) (e := l) (by rw [hH]; exact trivial) (.inl rfl) (fun b' u hb hu => (Heap.get?_update_other s.heap (Obj.mapSeq f) (Ne.symm hb)).trans hu) ⟨_, q⟩ ?_
 exact ⟨hz, its', _, hv, q⟩
theorem Inv.lnew {its : List Value} {t' : Nat} (I : Inv X pins σ H s) (hv : Vals ys its) (hz : ys.length <= sizeLine) :
  Inv X pins σ (upd H s.heap.objs.size (.lst ys)) { s with heap := s.heap.push { cls := .type "list", data := .seq its.toArray }, toks := t' } :=
 I.laid (fun _ _ q => Heap.get?_push_of_some _ q) (Nat.le_refl _) ⟨hz, its, 0, hv, Heap.get?_push_size _ rfl⟩
theorem Inv.fresh (I : Inv X pins σ H s) : H s.heap.objs.size = none := I.hok.fresh (Nat.le_refl _)
theorem Inv.lstM (I : Inv X pins σ H s) (hH : H l = some (.lst xs)) : xs.length <= sizeLine /\ ∃ (its : List Value) (n : Nat), Vals xs its /\ xs.length = its.length /\ s.heap.get? l = some { cls := .type "list", data := .seq its.toArray n } := by
 obtain ⟨z, its, n, r, e⟩ := I.hok l _ hH
 exact ⟨z, its, n, r, r.length, e⟩
theorem notLongL {n : Nat} (h : n <= sizeLine) : Builtin.List.listTooLong n = false := by
 unfold Builtin.List.listTooLong
 exact decide_eq_false (by omega)
end
section
variable {X : Cx}
def rAppend : V -> List V -> Hp -> VK -> Prop := fun x vs H Q => ∃ l xs y, x = .ref l /\ vs = [y] /\ H l = some (.lst xs) /\ xs.length < sizeLine /\ Q .non (upd H l (.lst (xs ++ [y])))
theorem mt_append : MtM X "list.append" rAppend := by
 (first | refine ⟨?_⟩ | skip); intro pins s σ H x vs v us Q I rx rv h
 obtain ⟨l, xs, y, rfl, rfl, hH, hz, q⟩ := h
 cases rx
 obtain ⟨u, rfl, ru⟩ := rv.one
 obtain ⟨z, its, n, r, hl, e⟩ := I.lstM hH
 refine call_meets F.slot_list_append ⟨_, e, rfl⟩ F.entry_list_append (F.args_list_append_2 _ _) (PySem.list_append l its.toArray n u (by rw [List.size_toArray]; omega)) ⟨e, ?_⟩
 refine ⟨.non, _, I.lset (its' := its ++ [u]) hH e (by simp) (r.append (.cons ru .nil)) ?_, rfl, q⟩
 rw [List.length_append, List.length_singleton]
 omega
def rExtend : V -> List V -> Hp -> VK -> Prop := fun x vs H Q => ∃ l b xs zs, x = .ref l /\ vs = [.ref b] /\ H l = some (.lst xs) /\ H b = some (.lst zs) /\ xs.length + zs.length <= sizeLine /\ Q .non (upd H l (.lst (xs ++ zs)))
theorem mt_extend : MtM X "list.extend" rExtend := by
 (first | refine ⟨?_⟩ | skip); intro pins s σ H x vs v us Q I rx rv h
 obtain ⟨l, b, xs, zs, rfl, rfl, hH, hB, hz, q⟩ := h
 cases rx
 obtain ⟨u, rfl, ru⟩ := rv.one
 cases ru
 obtain ⟨z, its, n, r, hl, e⟩ := I.lstM hH
 obtain ⟨z2, its2, n2, r2, hl2, e2⟩ := I.lstM hB
 have hsz : its.toArray.size + its2.toArray.size <= sizeLine := by rw [List.size_toArray, List.size_toArray]; omega
 have hlong : ¬ (!its.toArray.isEmpty && Builtin.List.listTooLong (its.toArray.size + its2.toArray.size)) = true := by
  rw [notLongL hsz, Bool.and_false]
  exact Bool.false_ne_true
 refine call_meets F.slot_list_extend ⟨_, e, rfl⟩ F.entry_list_extend (F.args_list_extend_2 _ _)
  (AutoSeq1.list_extend_list_list_0 l its.toArray n b its2.toArray n2 hlong (by rw [List.size_toArray]; omega) (by omega)) ⟨e, e2, ?_⟩
 refine ⟨.non, _, I.lset (its' := its ++ its2) hH e (by simp) (r.append r2) ?_, rfl, q⟩
 rw [List.length_append]
 omega
def rReverse : V -> List V -> Hp -> VK -> Prop := fun x vs H Q => ∃ l xs, x = .ref l /\ vs = [] /\ H l = some (.lst xs) /\ Q .non (upd H l (.lst xs.reverse))
theorem mt_reverse : MtM X "list.reverse" rReverse := by
 (first | refine ⟨?_⟩ | skip); intro pins s σ H x vs v us Q I rx rv h
 obtain ⟨l, xs, rfl, rfl, hH, q⟩ := h
 cases rx
 have hus := rv.zero
 subst hus
 obtain ⟨z, its, n, r, hl, e⟩ := I.lstM hH
 refine call_meets F.slot_list_reverse ⟨_, e, rfl⟩ F.entry_list_reverse (F.args_list_reverse_1 _) (AutoSeq1.list_reverse_list_0 l its.toArray n (by rw [List.size_toArray]; omega)) ⟨e, ?_⟩
 refine ⟨.non, _, I.lset (its' := its.reverse) hH e (by simp) r.reverse ?_, rfl, q⟩
 rw [List.length_reverse]
 omega
def rCat : R2 := fun x y H Q => ∃ l b xs zs, x = .ref l /\ y = .ref b /\ H l = some (.lst xs) /\ H b = some (.lst zs) /\ xs.length + zs.length <= sizeLine /\ ∀ p, H p = none -> Q (.ref p) (upd H p (.lst (xs ++ zs)))
theorem op_cat : OpR X (binaryOp .Add) rCat := by
 (first | refine ⟨?_⟩ | skip); intro pins s σ H x y v u Q I rx ry h
 obtain ⟨l, b, xs, zs, rfl, rfl, hH, hB, hz, q⟩ := h
 cases rx
 cases ry
 obtain ⟨z, its, n, r, hl, e⟩ := I.lstM hH
 obtain ⟨z2, its2, n2, r2, hl2, e2⟩ := I.lstM hB
 refine PySem.P.add_list e e2 ?_ (by rw [List.size_toArray, List.size_toArray]; omega)
 have ea : its.toArray ++ its2.toArray = (its ++ its2).toArray := by simp
 rw [ea]
 exact ⟨.ref _, _, I.lnew (t' := s.toks) (r.append r2) (by rw [List.length_append]; omega), rfl, q _ I.fresh⟩
end
end L2
namespace L2
open PySem PySem.Spec PyProof.Rows
section
variable {κ : Type} [DecidableEq κ]
def valV (kvs : List (κ × V)) (k : κ) : Option V := (kvs.find? fun kv => decide (kv.1 = k)).map (·.2)
def putK (kvs : List (κ × V)) (k : κ) (v : V) : List (κ × V) :=
 if (kvs.any fun kv => decide (kv.1 = k)) = true then kvs.map (fun kv => if kv.1 = k then (kv.1, v) else kv) else kvs ++ [(k, v)]
theorem valV_pos {p : κ × V} {r : List (κ × V)} {k : κ} (e : p.1 = k) : valV (p :: r) k = some p.2 := by simp [valV, List.find?_cons, e]
theorem valV_neg {p : κ × V} {r : List (κ × V)} {k : κ} (e : ¬ p.1 = k) : valV (p :: r) k = valV r k := by simp [valV, List.find?_cons, e]
theorem valV_any (k : κ) : ∀ kvs : List (κ × V), (kvs.any fun kv => decide (kv.1 = k)) = (valV kvs k).isSome
 | [] => rfl
 | p :: r => by
  rw [List.any_cons]
  by_cases e : p.1 = k
  ·simp only [valV_pos e, decide_eq_true e, Bool.true_or, Option.isSome_some]
  ·rw [valV_neg e, decide_eq_false e, Bool.false_or]; exact valV_any k r
theorem length_putK (kvs : List (κ × V)) (k : κ) (v : V) : (putK kvs k v).length <= kvs.length + 1 := by
 unfold putK
 split
 ·rw [List.length_map]; omega
 ·rw [List.length_append, List.length_cons, List.length_nil]; omega
theorem RelO.isSome_eq {o : Option V} {u : Option Value} (r : RelO o u) : o.isSome = u.isSome := by
 cases o with
 | none => cases u with
  | none => rfl
  | some _ => exact (show False from r).elim
 | some _ => cases u with
  | none => exact (show False from r).elim
  | some _ => rfl
theorem RelO.getD {o : Option V} {u : Option Value} {d : V} {d' : Value} (r : RelO o u) (rd : RelV d d') : RelV (o.getD d) (u.getD d') := by
 cases o with
 | none => cases u with
  | none => exact rd
  | some _ => exact (show False from r).elim
 | some _ => cases u with
  | none => exact (show False from r).elim
  | some _ => exact r
theorem KV.val {kvs : List (κ × V)} {vs : List (κ × Value)} (r : KV kvs vs) (k : κ) : RelO (valV kvs k) (valueAt vs k) := by
 unfold KV at r
 induction r with
 | nil => exact True.intro
 | @cons p q ps qs h t ih =>
  obtain ⟨h1, h2⟩ := h
  by_cases e : p.1 = k
  ·have e' : q.1 = k := h1.symm.trans e
   have b : valueAt (q :: qs) k = some q.2 := by simp [valueAt, List.find?_cons, e']
   rw [valV_pos e, b]; exact h2
  ·have e' : ¬ q.1 = k := fun z => e (h1.trans z)
   have b : valueAt (q :: qs) k = valueAt qs k := by simp [valueAt, List.find?_cons, e']
   rw [valV_neg e, b]; exact ih
theorem KV.any {kvs : List (κ × V)} {vs : List (κ × Value)} (r : KV kvs vs) (k : κ) : (kvs.any fun kv => decide (kv.1 = k)) = vs.any fun kv => decide (kv.1 = k) := by
 unfold KV at r
 induction r with
 | nil => rfl
 | cons h t ih => rw [List.any_cons, List.any_cons, ih, h.1]
theorem KV.repl {kvs : List (κ × V)} {vs : List (κ × Value)} (r : KV kvs vs) (k : κ) {y : V} {u : Value} (ry : RelV y u) :
  KV (kvs.map fun kv => if kv.1 = k then (kv.1, y) else kv) (vs.map fun kv => if kv.1 = k then (kv.1, u) else kv) := by
 unfold KV at r ⊢
 induction r with
 | nil => exact .nil
 | @cons p q ps qs h t ih =>
  rw [List.map_cons, List.map_cons]
  refine .cons ?_ ih
  obtain ⟨h1, h2⟩ := h
  by_cases e : p.1 = k
  ·rw [if_pos e, if_pos (h1.symm.trans e)]; exact ⟨h1, ry⟩
  ·rw [if_neg e, if_neg (fun z => e (h1.trans z))]; exact ⟨h1, h2⟩
theorem KV.put {kvs : List (κ × V)} {vs : List (κ × Value)} (r : KV kvs vs) (k : κ) {y : V} {u : Value} (ry : RelV y u) : KV (putK kvs k y) (stored vs k u) := by
 unfold putK stored
 rw [r.any k]
 by_cases e : (vs.any fun kv => decide (kv.1 = k)) = true
 ·rw [if_pos e, if_pos e]; exact r.repl k ry
 ·rw [if_neg e, if_neg e]; exact Paired.snoc r ⟨rfl, ry⟩
theorem KV.length {kvs : List (κ × V)} {vs : List (κ × Value)} (r : KV kvs vs) : kvs.length = vs.length := Paired.length r
end
theorem kV_is {P : Program} {w : World} {k : Key} {u : Value} (r : RelV (kV k) u) : (mixKind P w).is k u = true := by
 cases k with
 | inl i => obtain ⟨t, e⟩ := (show ∃ t, u = Value.int i t from r); subst e; exact mixKind_int P w i t
 | inr x => obtain ⟨t, e⟩ := (show ∃ t, u = Value.str x t from r); subst e; exact mixKind_str P w x t
theorem items_are {P : Program} {w : World} : ∀ {ks : List Key} {us : List Value}, Vals (ks.map kV) us -> ItemsAre (mixKind P w) ks us
 | [], _, r => by rw [List.map_nil] at r; cases r; exact .nil
 | k :: ks, _, r => by
  rw [List.map_cons] at r
  cases r with
  | cons h t => exact .cons (kV_is h) (items_are t)
abbrev KT (H : Hp) : List (List Key × V) -> List (List Key × Addr × Value) -> Prop := Paired fun p q => p.1 = q.1 /\ H q.2.1 = some (.tup (p.1.map kV)) /\ RelV p.2 q.2.2
theorem KT.val {H : Hp} {kvs : List (List Key × V)} {xs : List (List Key × Addr × Value)} (r : KT H kvs xs) (k : List Key) : RelO (valV kvs k) ((atKey xs k).map (·.2)) := by
 induction r with
 | nil => exact True.intro
 | @cons p q ps qs h t ih =>
  obtain ⟨h1, _, h2⟩ := h
  by_cases e : p.1 = k
  ·have e' : q.1 = k := h1.symm.trans e
   have b : atKey (q :: qs) k = some q.2 := by simp [atKey, List.find?_cons, e']
   rw [valV_pos e, b]; exact h2
  ·have e' : ¬ q.1 = k := fun z => e (h1.trans z)
   have b : atKey (q :: qs) k = atKey qs k := by simp [atKey, List.find?_cons, e']
   rw [valV_neg e, b]; exact ih
theorem KT.repl {H : Hp} {kvs : List (List Key × V)} {xs : List (List Key × Addr × Value)} (r : KT H kvs xs) (k : List Key) {y : V} {u : Value} (ry : RelV y u) :
  KT H (kvs.map fun kv => if kv.1 = k then (kv.1, y) else kv) (xs.map (putAt k u)) := by
 induction r with
 | nil => exact .nil
 | @cons p q ps qs h t ih =>
  rw [List.map_cons, List.map_cons]
  refine .cons ?_ ih
  obtain ⟨h1, h2, h3⟩ := h
  unfold putAt
  by_cases e : p.1 = k
  ·rw [if_pos e, if_pos (h1.symm.trans e)]; exact ⟨h1, h2, ry⟩
  ·rw [if_neg e, if_neg (fun z => e (h1.trans z))]; exact ⟨h1, h2, h3⟩
theorem KT.put {H : Hp} {kvs : List (List Key × V)} {xs : List (List Key × Addr × Value)} (r : KT H kvs xs) (k : List Key) {b : Addr} {y : V} {u : Value} (hb : H b = some (.tup (k.map kV))) (ry : RelV y u) :
  KT H (putK kvs k y) (storedH xs k b u) := by
 have e : (kvs.any fun kv => decide (kv.1 = k)) = (atKey xs k).isSome := by
  rw [valV_any, (r.val k).isSome_eq, Option.isSome_map]
 unfold putK storedH
 rw [e]
 by_cases q : (atKey xs k).isSome = true
 ·rw [if_pos q, if_pos q]; exact r.repl k ry
 ·rw [if_neg q, if_neg q]; exact Paired.snoc r ⟨rfl, hb, ry⟩
theorem KT.keeps {H H' : Hp} {kvs : List (List Key × V)} {xs : List (List Key × Addr × Value)} (r : KT H kvs xs) (ht : ∀ b ys, H b = some (.tup ys) -> H' b = some (.tup ys)) : KT H' kvs xs :=
 Paired.mapP r fun _ _ z => ⟨z.1, ht _ _ z.2.1, z.2.2⟩
section
variable {P : Program} {w : World} {H : Hp} {h : Heap} {a : Addr}
theorem rd_of {u : HO} (ok : HOk P w H h) (e : Rd H a u) : ObjOk P w H h a u := e.ok ok
theorem dk_rd {kvs : List (Key × V)} (ok : HOk P w H h) (e : Rd H a (.dK kvs)) : kvs.length <= sizeLine /\ (a == sysModules) = false /\ ∃ vs, KV kvs vs /\ h.DictOf (mixKind P w) a vs :=
 show ObjOk P w H h a (.dK kvs) from rd_of ok e
theorem dk_of {kvs : List (Key × V)} (ok : HOk P w H h) (e : H a = some (.dK kvs)) : kvs.length <= sizeLine /\ (a == sysModules) = false /\ ∃ vs, KV kvs vs /\ h.DictOf (mixKind P w) a vs := dk_rd ok (.inl e)
theorem key_of {ks : List Key} (ok : HOk P w H h) (e : H a = some (.tup (ks.map kV))) : (tupleKind (mixKind P w)).is h ks a := by
 obtain ⟨_, its, r, o, h1, h2, n, h3⟩ := (show ObjOk P w H h a (.tup (ks.map kV)) from ok a _ e)
 exact ⟨o, its.toArray, n, h1, h2, h3, by simpa using items_are r⟩
theorem dt_rd {kvs : List (List Key × V)} (ok : HOk P w H h) (e : Rd H a (.dT kvs)) : kvs.length <= sizeLine /\ (a == sysModules) = false /\
  ∃ xs, KT H kvs xs /\ h.DictOfH (tupleKind (mixKind P w)) a xs := by
 obtain ⟨z, y, xs, r, o, es, ep, h1, h2, h3, h4, h5⟩ := (show ObjOk P w H h a (.dT kvs) from rd_of ok e)
 refine ⟨z, y, xs, r, o, es, ep, h1, h2, h3, h4, fun x hx => ?_, h5⟩
 have all : ∀ {l : List (List Key × V)} {m : List (List Key × Addr × Value)}, KT H l m -> ∀ x ∈ m, (tupleKind (mixKind P w)).is h x.1 x.2.1 := by
  intro l m q
  induction q with
  | nil => intro x hx; exact nomatch hx
  | @cons p q ps qs hq t ih =>
   intro x hx
   rcases List.mem_cons.mp hx with e | hx
   ·subst e
    exact key_of ok (by rw [← hq.1]; exact hq.2.1)
   ·exact ih x hx
 exact all r x hx
theorem dt_of {kvs : List (List Key × V)} (ok : HOk P w H h) (e : H a = some (.dT kvs)) : kvs.length <= sizeLine /\ (a == sysModules) = false /\
  ∃ xs, KT H kvs xs /\ h.DictOfH (tupleKind (mixKind P w)) a xs := dt_rd ok (.inl e)
end
def DGet (H : Hp) (a : Addr) (y : V) (r : Option V) : Prop :=
 (∃ kvs k, Rd H a (.dK kvs) /\ y = kV k /\ r = valV kvs k) \/ ∃ kvs k b, Rd H a (.dT kvs) /\ y = .ref b /\ H b = some (.tup (k.map kV)) /\ r = valV kvs k
def DPut (H : Hp) (a : Addr) (y v : V) (H' : Hp) : Prop :=
 (∃ kvs k, H a = some (.dK kvs) /\ y = kV k /\ kvs.length < sizeLine /\ H' = upd H a (.dK (putK kvs k v))) \/
 ∃ kvs k b, H a = some (.dT kvs) /\ y = .ref b /\ H b = some (.tup (k.map kV)) /\ kvs.length < sizeLine /\ H' = upd H a (.dT (putK kvs k v))
theorem DGet.k {H : Hp} {a : Addr} {kvs : List (Key × V)} {k : Key} (e : H a = some (.dK kvs)) : DGet H a (kV k) (valV kvs k) := .inl ⟨kvs, k, .inl e, rfl, rfl⟩
theorem DPut.k {H : Hp} {a : Addr} {kvs : List (Key × V)} {k : Key} {v : V} (e : H a = some (.dK kvs)) (hl : kvs.length < sizeLine) : DPut H a (kV k) v (upd H a (.dK (putK kvs k v))) := .inl ⟨kvs, k, e, rfl, hl, rfl⟩
section
variable {X : Cx} {pins : List (Addr × Obj)} {σ : St} {H : Hp} {s : Shared} {a : Addr} {y v : V} {u r : Value} {o : Option V} {A : Around} {E : Value -> Shared -> Prop}
theorem Inv.big (I : Inv X pins σ H s) : sysModules < s.heap.objs.size := by
 have h : mainGlobals < s.heap.objs.size := (I.mod.glob.keeps I.bk).lt
 exact Nat.lt_trans (by decide) h
theorem d_in {Q : Value -> Shared -> Prop} (hu : A.units + 1 < cLine) (I : Inv X pins σ H s) (g : DGet H a y o) (ry : RelV y u) (h : ∀ s', Inv X pins σ H s' -> Q (.bool o.isSome) s') :
  wpAny (model X.prog X.w) A (compareOp .In u (.ref a)) Q E s := by
 rcases g with ⟨kvs, k, e, ey, l⟩ | ⟨kvs, k, b, e, ey, eb, l⟩
 ·subst ey
  obtain ⟨z, hd, vs, rel, dd⟩ := dk_rd I.hok e
  refine wpAny_in_of (kV_is ry) hd dd.mapOf ?_
  rw [← (rel.val k).isSome_eq, ← l]
  exact h _ (I.tok _)
 ·subst ey
  cases (show u = Value.ref b from ry)
  obtain ⟨z, hd, xs, rel, dd⟩ := dt_rd I.hok e
  refine wpAny_in_heap (tupleKind_room_in1 hu) (key_of I.hok eb) hd dd ?_
  have q := (rel.val k).isSome_eq
  rw [Option.isSome_map] at q
  rw [← q, ← l]
  exact h _ (I.tok _)
theorem d_notIn {Q : Value -> Shared -> Prop} (hu : A.units + 1 < cLine) (I : Inv X pins σ H s) (g : DGet H a y o) (ry : RelV y u) (h : ∀ s', Inv X pins σ H s' -> Q (.bool (!o.isSome)) s') :
  wpAny (model X.prog X.w) A (compareOp .NotIn u (.ref a)) Q E s := by
 rcases g with ⟨kvs, k, e, ey, l⟩ | ⟨kvs, k, b, e, ey, eb, l⟩
 ·subst ey
  obtain ⟨z, hd, vs, rel, dd⟩ := dk_rd I.hok e
  refine wpAny_notIn_of (kV_is ry) hd dd.mapOf ?_
  rw [← (rel.val k).isSome_eq, ← l]
  exact h _ (I.tok _)
 ·subst ey
  cases (show u = Value.ref b from ry)
  obtain ⟨z, hd, xs, rel, dd⟩ := dt_rd I.hok e
  refine wpAny_notIn_heap (tupleKind_room_in1 hu) (key_of I.hok eb) hd dd ?_
  have q := (rel.val k).isSome_eq
  rw [Option.isSome_map] at q
  rw [← q, ← l]
  exact h _ (I.tok _)
theorem d_write {h' : Heap} {t' : Nat} {ob : HO} (I : Inv X pins σ H s) (mu : Mut (H a)) (hs : Heap.SameBut a s.heap h') (he : ∃ q, h'.get? a = some q) (new : ObjOk X.prog X.w (upd H a ob) h' a ob) :
  Inv X pins σ (upd H a ob) { s with heap := h', toks := t' } :=
 I.write (x := a) (e := a) mu (.inl rfl) (fun b q hb z => (hs.2 b hb).trans z) he new
theorem dk_new {P : Program} {w : World} {H' : Hp} {h' : Heap} {kvs : List (Key × V)} {vs : List (Key × Value)} (z : kvs.length <= sizeLine) (hd : (a == sysModules) = false) (rel : KV kvs vs) (dd : h'.DictOf (mixKind P w) a vs) :
  ObjOk P w H' h' a (.dK kvs) := ⟨z, hd, vs, rel, dd⟩
theorem d_setItem {H' : Hp} {Q : Unit -> Shared -> Prop} (hu : A.units + 1 < cLine) (I : Inv X pins σ H s) (g : DPut H a y v H') (ry : RelV y u) (rv : RelV v r) (h : ∀ s', Inv X pins σ H' s' -> Q () s') :
  wpAny (model X.prog X.w) A (setItem (.ref a) u r) Q E s := by
 rcases g with ⟨kvs, k, e, ey, l, eH⟩ | ⟨kvs, k, b, e, ey, eb, l, eH⟩
 ·subst ey eH
  obtain ⟨z, hd, vs, rel, dd⟩ := dk_of I.hok e
  have hz : vs.length <= sizeLine := by rw [← rel.length]; exact z
  have hl : (putK kvs k v).length <= sizeLine := by have := length_putK kvs k v; omega
  refine wpAny_setItem_pairs (hsz := hz) (kV_is ry) dd fun h' dd' hs => h _ ?_
  have he : ∃ q, h'.get? a = some q := let ⟨q, _, _, hq, _⟩ := dd'; ⟨q, hq⟩
  exact d_write I (by rw [e]; exact True.intro) hs he (dk_new hl hd (rel.put k rv) dd')
 ·subst ey eH
  cases (show u = Value.ref b from ry)
  obtain ⟨z, hd, xs, rel, dd⟩ := dt_of I.hok e
  have hz : xs.length <= sizeLine := by rw [← Paired.length rel]; exact z
  have hl : (putK kvs k v).length <= sizeLine := by have := length_putK kvs k v; omega
  refine wpAny_setItem_heap (hsz := hz) (tupleKind_room_in1 hu) (key_of I.hok eb) dd fun h' dd' hs => h _ ?_
  obtain ⟨q, es, ep, hq, h2, h3, h4, _, h5⟩ := dd'
  refine d_write I (by rw [e]; exact True.intro) hs ⟨q, hq⟩ ⟨hl, hd, _, (rel.put k eb rv).keeps fun c ys ec => ?_, q, es, ep, hq, h2, h3, h4, h5⟩
  rw [upd_ne (ne_of ec e (fun z => nomatch z))]
  exact ec
end
theorem dk_empty {P : Program} {w : World} {H : Hp} (h : Heap) (hb : sysModules < h.objs.size) : ObjOk P w H (h.push { cls := .type "dict", data := .dict #[] }) h.objs.size (.dK []) :=
 ⟨Nat.zero_le _, beq_eq_false_iff_ne.mpr (Ne.symm (Nat.ne_of_lt hb)), [], .nil, Heap.DictOf.new h⟩
def tDNewK : TE := fun _ H Q => ∀ p, H p = none -> Q (.ref p) (upd H p (.dK []))
section
variable {X : Cx} {pos : Pos}
theorem pe_dnewK : PE X (.Dict [] [] pos) tDNewK := .mk <| fun pins s σ H Q I h =>
 wpAny_Dict_empty ⟨.ref s.heap.objs.size, _, I.laid (a := s.heap.objs.size) (o := .dK []) (t' := s.toks) (fun _ _ q => Heap.get?_push_of_some _ q) (Nat.le_refl _) (dk_empty s.heap I.big), rfl, h _ (I.hok.fresh (Nat.le_refl _))⟩
end
def tPairs : List (TE × TE) -> St -> Hp -> (List (V × V) -> Hp -> Prop) -> Prop
 | [], _, H, Q => Q [] H
 | (tk, tv) :: r, σ, H, Q => tk σ H fun x H1 => tv σ H1 fun y H2 => tPairs r σ H2 fun ps H3 => Q ((x, y) :: ps) H3
abbrev VV : List (V × V) -> List (Value × Value) -> Prop := Paired fun p q => RelV p.1 q.1 /\ RelV p.2 q.2
def PPs (X : Cx) (pos : Pos) (keys : List (Option Expr)) (values : List Expr) (trs : List (TE × TE)) : Prop :=
 ∀ (pins : List (Addr × Obj)) (s : Shared) (σ : St) (H : Hp) (Q : List (V × V) -> Hp -> Prop), Inv X pins σ H s -> tPairs trs σ H Q ->
  wpAny (model X.prog X.w) X.A (evalPairs (pairTrees keys values X.env pos)) (fun vs s' => ∃ ps H', Inv X pins σ H' s' /\ VV ps vs /\ Q ps H') X.xe s
theorem pps_nil {X : Cx} {pos : Pos} : PPs X pos [] [] [] := fun pins s σ H Q I h => pairTrees_nil_walk ⟨[], H, I, .nil, h⟩
theorem pps_cons {X : Cx} {pos : Pos} {k v : Expr} {ks : List (Option Expr)} {vs : List Expr} {tk tv : TE} {trs : List (TE × TE)} (hk : PE X k tk) (hv : PE X v tv) (hr : PPs X pos ks vs trs) :
  PPs X pos (some k :: ks) (v :: vs) ((tk, tv) :: trs) := fun pins s σ H Q I h =>
 pairTrees_cons_walk (thn (hk pins s σ H _ I h) fun u s1 ⟨x, H1, I1, rx, q1⟩ => thn (hv pins s1 σ H1 _ I1 q1) fun w2 s2 ⟨y, H2, I2, ry, q2⟩ =>
  thn (hr pins s2 σ H2 _ I2 q2) fun ws s3 ⟨ps, H3, I3, rel, q3⟩ => ⟨(x, y) :: ps, H3, I3, .cons ⟨rx, ry⟩ rel, q3⟩)
section
variable {X : Cx} {pins : List (Addr × Obj)} {σ : St} {H : Hp} {s : Shared} {a : Addr} {y d : V} {u r : Value} {o : Option V} {A : Around} {E : Value -> Shared -> Prop}
theorem d_get1 {Q : Value -> Shared -> Prop} (hu : A.units + 1 < cLine) (I : Inv X pins σ H s) (g : DGet H a y o) (ry : RelV y u) (h : ∀ w' s', Inv X pins σ H s' -> RelV (o.getD .non) w' -> Q w' s') :
  wpAny (model X.prog X.w) A (call (.builtin "dict.get") [.ref a, u]) Q E s := by
 rcases g with ⟨kvs, k, e, ey, l⟩ | ⟨kvs, k, b, e, ey, eb, l⟩
 ·subst ey
  obtain ⟨z, hd, vs, rel, dd⟩ := dk_rd I.hok e
  refine call_meetsIn PySem.F.slot_dict_get dd.typeIs PySem.F.entry_dict_get (PySem.F.args_dict_get_2 _ _) (meets_dict_get (mixKind X.prog X.w) a (kV_is ry) hd) ⟨_, dd.mapOf, h _ _ (I.tok _) ?_⟩
  rw [l]
  exact (rel.val k).getD rfl
 ·subst ey
  cases (show u = Value.ref b from ry)
  obtain ⟨z, hd, xs, rel, dd⟩ := dt_rd I.hok e
  refine call_meetsIn PySem.F.slot_dict_get dd.typeIs PySem.F.entry_dict_get (PySem.F.args_dict_get_2 _ _) (meetsH_dict_get (tupleKind (mixKind X.prog X.w)) a b hd) ⟨tupleKind_room_in1 hu, k, xs, key_of I.hok eb, dd, h _ _ (I.tok _) ?_⟩
  rw [l]
  exact (rel.val k).getD rfl
theorem d_get2 {Q : Value -> Shared -> Prop} (hu : A.units + 1 < cLine) (I : Inv X pins σ H s) (g : DGet H a y o) (ry : RelV y u) (rd : RelV d r) (h : ∀ w' s', Inv X pins σ H s' -> RelV (o.getD d) w' -> Q w' s') :
  wpAny (model X.prog X.w) A (call (.builtin "dict.get") [.ref a, u, r]) Q E s := by
 rcases g with ⟨kvs, k, e, ey, l⟩ | ⟨kvs, k, b, e, ey, eb, l⟩
 ·subst ey
  obtain ⟨z, hd, vs, rel, dd⟩ := dk_rd I.hok e
  refine call_meetsIn PySem.F.slot_dict_get dd.typeIs PySem.F.entry_dict_get (PySem.F.args_dict_get_3 _ _ _) (meets_dict_get_default (mixKind X.prog X.w) a (kV_is ry) hd r) ⟨_, dd.mapOf, h _ _ (I.tok _) ?_⟩
  rw [l]
  exact (rel.val k).getD rd
 ·subst ey
  cases (show u = Value.ref b from ry)
  obtain ⟨z, hd, xs, rel, dd⟩ := dt_rd I.hok e
  refine call_meetsIn PySem.F.slot_dict_get dd.typeIs PySem.F.entry_dict_get (PySem.F.args_dict_get_3 _ _ _) (meetsH_dict_get_default (tupleKind (mixKind X.prog X.w)) a b hd r) ⟨tupleKind_room_in1 hu, k, xs, key_of I.hok eb, dd, h _ _ (I.tok _) ?_⟩
  rw [l]
  exact (rel.val k).getD rd
end
end L2
namespace Att
open PySem PySem.W PySem.Calls PyProof.Rows
theorem ints_of_wellAll {P : Params} {h : Heap} : ∀ (ns : List Int) (vs : List Value), WellAll P h vs (ns.map WData.int) -> IntsAre vs ns := by
 intro ns
 induction ns with
 | nil =>
  intro vs w
  rw [List.map_nil] at w
  cases w
  exact .nil
 | cons n ns ih =>
  intro vs w
  rw [List.map_cons] at w
  cases w with
  | cons a b =>
   cases a
   exact .cons _ _ (ih _ b)
theorem script_of {l : OpenLaw} {n : Nat} (hn : l.most = some n) {P : Params} {h : Heap} {args : List WData} {vals : List Value}
  (hpre : l.row.toRowW.claim.pre args = true) (hwl : WellAll P h vals args) :
  ∃ a vs ns, vals = [Value.ref a] /\ args = [WData.list (ns.map WData.int)] /\ h.get? a = some { cls := .type "list", data := .seq vs.toArray } /\ IntsAre vs ns /\ ns.length <= n := by
 have hsh : WShape.hasAll [] args [.list .int] = true := (pre_splitW hpre).1
 have hc : l.pre.holds [] { args := args } = true := (pre_splitW hpre).2
 obtain ⟨d, r, rfl, h1, h2⟩ := hasAllW_cons hsh
 obtain rfl := hasAllW_nil h2
 obtain ⟨xs, rfl, h3⟩ := hasW_list h1
 obtain ⟨ns, rfl⟩ := items_int h3
 have hlen : ns.length <= n := by
  unfold OpenLaw.pre at hc
  have h4 : (WTm.not (.lt (.lit (.int (n : Int))) (.len (.arg 0)))).holds [] { args := [.list (ns.map .int)] } = true := by
   have h4 := (holds_andW hc).1
   rw [hn] at h4
   exact h4
  have h5 := condW_of h4 (w_not (w_lt w_lit (w_len_list (w_arg rfl))))
  rw [List.length_map] at h5
  refine Nat.le_of_not_lt fun q => ?_
  have q' : (n : Int) < ((ns.length : Nat) : Int) := by omega
  first
   | (rw [decide_eq_true q'] at h5; exact absurd h5 (by decide))
   | (simp at h5; omega)
 cases hwl with
 | cons w1 w2 =>
  cases w2
  cases w1 with
  | list ho hall => exact ⟨_, _, ns, rfl, rfl, ho, ints_of_wellAll ns _ hall, hlen⟩
theorem post_true (l : OpenLaw) (args : List WData) : l.row.toRowW.claim.post args (.bool true) args = true :=
 postW_of (r := l.row.toRowW) (X := (true == true))
  (show WShape.has [] (.bool true) .bool = true by first | rfl | decide | simp [WShape.has, WShape.arms, WShape.armsAll])
  (show (WTm.eq .res (.lit (.bool true))).value [] { args := args, res := some (.bool true), after := args } = some (.bool (true == true)) from w_eq_bool (w_res rfl) w_lit) rfl
theorem attach_call {l : OpenLaw} {n : Nat} {q : Program} {loose : List Str} {XP : (Str -> Option Value) -> Heap -> Prop} {YP : World -> Heap -> Prop} {d : DefRec}
  (hn : l.most = some n) (hdf : d.params.defaults = [])
  (call : ∀ (w : World) (s₀ s₁ : Shared) (mg mb : Str -> Option Value) (fa : Addr) (o : Obj) (pm cd doc : Value) (a : Addr) (vs : List Value) (ns : List Int),
   Ground q loose [] XP w s₀ mg mb s₁.heap -> YP w s₁.heap ->
   s₁.heap.get? fa = some o -> o.data = .func (docDef d.name d.params d.body d.scope pm cd doc) -> s₁.heap.CodeRec cd d.name -> mg d.name = some (.ref fa) ->
   s₁.heap.get? a = some { cls := .type "list", data := .seq vs.toArray } -> IntsAre vs ns -> ns.length <= n -> s₁.gens = #[] ->
   codeAny (model l.prog w) callerA (.call (.ref fa) ⟨[.ref a], []⟩) (fun r s' => r = .ok (.ret (.bool true)) /\ OldK s₁.heap s'.heap /\ s'.os = s₁.os /\ AllBare s'.gens) s₁) :
  WalkO q loose XP YP l.row.toRowW d [] (fun f vs => PySem.call f vs) := by
 intro w s₀ s₁ mg mb G Y fa o pm cd doc dV kV ho hd hcd hD hmg hg args vals as hpre hlay hrd hwl hlo
 obtain rfl : dV = .none := Dflts.none hD hdf
 obtain rfl : kV = .none := Dflts.noKw hD
 obtain ⟨a, vs, ns, rfl, rfl, hobj, hints, hlen⟩ := script_of hn hpre hwl
 refine enter_call (codeAny_mono (call w s₀ s₁ mg mb fa o pm cd doc a vs ns G Y ho (fd_plain hd) hcd hmg hobj hints hlen hg) fun r s' hq => ?_)
 obtain ⟨rfl, h2, h3, h4⟩ := hq
 exact ⟨.inl ⟨.bool true, .bool true, [], rfl, fun _ => rfl, .bool true, post_true l _, fun _ => ⟨List.Pairwise.nil, fun _ hm => (nomatch hm)⟩⟩, h2, h3, h4⟩
end Att
namespace L2
open PySem PySem.Spec PyProof.Rows
theorem vals_ints : ∀ {vs : List Value} {ns : List Int}, IntsAre vs ns -> Vals (ns.map V.int) vs
 | _, _, .nil => .nil
 | _, _, .cons n t h => .cons ⟨t, rfl⟩ (vals_ints h)
def Only (H : Hp) : Prop := ∀ b, H b = none \/ ∃ o xs, H b = some (.frz o (.lst xs))
theorem law_call {P : Program} {w : World} {K : PySem.W.Frag} {mg mb : Str -> Option Value} {CX : CXT} {k : Nat} {fa a : Addr} {fd : FuncData} {x : Str} {sp : Sp} {s₁ : Shared} {vs : List Value} {ns : List Int}
  (KX : K.In s₁.heap) (hns : s₁.heap.Ns mainGlobals mg) (hb : s₁.heap.Ns builtinsNs mb) (hbb : ∀ x : Str, x ≠ "__name__" -> mb x = bootBuiltins x) (hlim : s₁.heap.NoLimit) (hg : s₁.gens = #[])
  (ha : s₁.heap.get? a = some { cls := .type "list", data := .seq vs.toArray }) (hi : IntsAre vs ns) (hl : ns.length <= sizeLine) (hr : Room k callerA)
  (F : ∀ base : Heap, K.In base -> base.Ns mainGlobals mg -> FnOk P w K mg base CX k fa fd [x] sp) (hbind : ∀ (s : Shared) (u : Value), BindsTo s fd ⟨[u], []⟩ [(x, u)])
  (hsp : ∀ H : Hp, Only H -> SqL K H a (ns.map V.int) -> sp [.ref a] H (fun v _ => v = .bl true) fun _ _ _ => False)
  (hCX : ∀ H e s', CX [] H s₁ (fun _ _ _ => False) e s' -> False) :
  codeAny (model P w) callerA (.call (.ref fa) ⟨[.ref a], []⟩) (fun r s' => r = .ok (.ret (.bool true)) /\ OldK s₁.heap s'.heap /\ s'.os = s₁.os /\ AllBare s'.gens) s₁ := by
 have rv := vals_ints hi
 have lenV := hi.length
 -- from an abstract heap in which nothing but the script may be tracked
 have core : ∀ H : Hp, Only H -> SqL K H a (ns.map V.int) -> HOk P w H s₁.heap -> (∀ b, H b ≠ none -> b = a) -> (H a ≠ none -> K.lookup a = none) ->
   codeAny (model P w) callerA (.call (.ref fa) ⟨[.ref a], []⟩) (fun r s' => r = .ok (.ret (.bool true)) /\ OldK s₁.heap s'.heap /\ s'.os = s₁.os /\ AllBare s'.gens) s₁ := by
  intro H hO hS hok hA hK
  have base_of : ∀ {b : Addr} {o : Obj}, s₁.heap.get? b = some o -> H b = none -> (hidT s₁.heap H).get? b = some o := fun e n => hidT_get e n
  have noA : ∀ {b : Addr} {o : Obj} {es : Array DictEntry} {ep : Nat}, s₁.heap.get? b = some o -> o.data = .dict es ep -> H b = none := fun {b o es ep} e d => by
   cases q : H b with
   | none => rfl
   | some u =>
    have e' : b = a := hA b (by rw [q]; simp)
    subst e'
    rw [ha] at e; cases e
    have d' : Data.seq vs.toArray _ = Data.dict es ep := d
    cases d'
  have nsK : ∀ {b : Addr} {m : Str -> Option Value}, s₁.heap.Ns b m -> (hidT s₁.heap H).Ns b m := fun {b m} ⟨o, es, ep, e, d, r⟩ => ⟨o, es, ep, base_of e (noA e d), d, r⟩
  have hKb : K.In (hidT s₁.heap H) := fun b o e => base_of (KX b o e) (by
   cases q : H b with
   | none => rfl
   | some u =>
    have e' : b = a := hA b (by rw [q]; simp)
    subst e'
    rw [hK (by rw [q]; simp)] at e; cases e)
  have hM : Mod K mg (hidT s₁.heap H) := ⟨hKb, nsK hns, ⟨mb, nsK hb, hbb⟩, let ⟨mc, h1, h2⟩ := hlim; ⟨mc, nsK h1, h2⟩⟩
  have e0 : Env0 P w K mg (hidT s₁.heap H) callerA [] s₁ H := ⟨rfl, hM, fun b o e => of_hidT e, Nat.le_of_eq (hidT_size _ _), trivial, fun b hb => absurd (show b ∈ ([] : List Addr) from hb) (by simp), hok, .of_eq hg⟩
  refine codeAny_mono ((F _ hKb (nsK hns)).run callerA [] s₁ H ⟨[.ref a], []⟩ [.ref a] [.ref a] _ _ hr e0 (hbind s₁ (.ref a)) (.cons rfl .nil) (hsp H hO hS)) fun r s' h => ?_
  cases r with
  | error e => exact (hCX H e s' h).elim
  | ok fl =>
   cases fl with
   | next => exact False.elim h
   | brk => exact False.elim h
   | cont => exact False.elim h
   | ret u =>
    obtain ⟨v, H', os, bare, un, hok', r', q⟩ := h
    have q' : v = .bl true := q
    subst q'
    obtain rfl : u = Value.bool true := r'
    refine ⟨rfl, OldK.of_keep fun b o e => ?_, os, bare⟩
    cases q : H b with
    | none => exact un.keep b o e q (by intro z; exact absurd (show b ∈ ([] : List Addr) from z) (by simp)) (by simp)
    | some u =>
     rcases hO b with z | ⟨ob, xs, z⟩
     ·rw [q] at z; cases z
     ·have z2 := un.frzs b ob _ z
      obtain ⟨e1, _⟩ := hok b _ z
      obtain ⟨e2, _⟩ := hok' b _ z2
      rw [e] at e1; cases e1
      exact e2
 cases hk : K.lookup a with
 | some o =>
  -- the script is one of the module's own objects
  have e := KX a o hk
  rw [ha] at e
  cases e
  refine core (fun _ => none) (fun _ => .inl rfl) (.inr ⟨_, vs.toArray, _, hk, rfl, rfl, rfl, by rw [List.size_toArray, lenV]; exact hl, by simpa using rv⟩) (fun b u z => by have z' : (none : Option HO) = some u := z; cases z') (fun b z => absurd rfl z) fun z => absurd rfl z
 | none =>
  refine core (fun b => if b = a then some (.frz { cls := .type "list", data := .seq vs.toArray } (.lst (ns.map V.int))) else none) (fun b => ?_) (.inl (.inr ⟨{ cls := .type "list", data := .seq vs.toArray }, if_pos rfl⟩)) (fun b u z => ?_) (fun b z => ?_) fun _ => hk
  ·by_cases hb : b = a
   ·exact .inr ⟨_, _, if_pos hb⟩
   ·exact .inl (if_neg hb)
  ·by_cases hb : b = a
   ·have z' := (if_pos hb).symm.trans z
    cases z'
    subst hb
    exact ⟨ha, by rw [List.length_map]; exact hl, vs, _, rv, ha⟩
   ·have z' := (if_neg hb).symm.trans z
    cases z'
  ·by_cases hb : b = a
   ·exact hb
   ·exact absurd (if_neg hb) z
end L2
namespace L2
open PySem PySem.Spec PyProof.Rows
theorem walk_of {l : PySem.W.OpenLaw} {n k : Nat} {q : Program} {loose : List Str} {XP : (Str -> Option Value) -> Heap -> Prop} {YP : World -> Heap -> Prop} {d : DefRec} {K : Params -> PySem.W.Frag} {CX : World -> CXT} {sp : World -> Sp} {x : Str}
  (hn : l.most = some n) (hn2 : n <= sizeLine) (hdf : d.params.defaults = []) (hr : Room k callerA)
  (hY : ∀ (w : World) (h : Heap), YP w h -> (K w.params).In h)
  (F : ∀ (w : World) (mg : Str -> Option Value) (fa : Addr) (h : Heap), (K w.params).In h -> h.Ns mainGlobals mg -> mg d.name = some (.ref fa) ->
   ∃ fd : FuncData, (∀ (s : Shared) (u : Value), BindsTo s fd ⟨[u], []⟩ [(x, u)]) /\
    ∀ base : Heap, (K w.params).In base -> base.Ns mainGlobals mg -> FnOk l.prog w (K w.params) mg base (CX w) k fa fd [x] (sp w))
  (hsp : ∀ (w : World) (H : Hp) (a : Addr) (ns : List Int), ns.length <= n -> Only H -> SqL (K w.params) H a (ns.map V.int) -> sp w [.ref a] H (fun v _ => v = .bl true) fun _ _ _ => False)
  (hCX : ∀ (w : World) (H : Hp) (s : Shared) (e : Value) (s' : Shared), CX w [] H s (fun _ _ _ => False) e s' -> False) :
  PySem.W.WalkO q loose XP YP l.row.toRowW d [] (fun f vs => PySem.call f vs) := by
 refine Att.attach_call hn hdf fun w s₀ s₁ mg mb fa o pm cd doc a vs ns G Y ho hd hcd hmg hobj hints hlen hg => ?_
 have KX := hY w _ Y
 obtain ⟨fd, hb, hF⟩ := F w mg fa _ KX G.T.g hmg
 exact law_call KX G.T.g G.T.b G.T.builtins G.T.nolimit hg hobj hints (Nat.le_trans hlen hn2) hr hF hb (fun H hO hS => hsp w H a ns hlen hO hS) fun H e s' => hCX w H s₁ e s'
end L2
namespace L2
open PySem PySem.Spec PyProof.Rows
def defArgs (s : Stmt) : Arguments := match s with
 | .FunctionDef _ a _ _ _ _ _ _ _ _ => a
 | _ => { posonlyargs := [], args := [], vararg := none, kwonlyargs := [], kw_defaults := [], kwarg := none, defaults := [] }
def defBody (s : Stmt) : List Stmt := match s with
 | .FunctionDef _ _ b _ _ _ _ _ _ _ => b
 | _ => []
def defScope (s : Stmt) : Scope := match s with
 | .FunctionDef _ _ _ _ _ _ sc _ _ _ => sc
 | _ => { kind := .function, names := [], isGenerator := false, isCoroutine := false }
abbrev CX0 : CXT := fun _ _ _ _ _ _ => False
abbrev E0 : XK := fun _ _ _ => False
theorem pass0 {X : Cx} : Passes CX0 X E0 := fun _ _ _ _ _ _ _ h => h.elim
structure Fun (K : PySem.W.Frag) (x qual : Str) (st : Stmt) (f : Addr) (fd : FuncData) : Prop where
 ex : ∃ (oc : Value) (od : Option Addr) (kV doc pm : Value) (an : Option Addr) (cdv ct : Value) (osl : Array (Option Value)),
  fd = PySem.W.fnOf x qual (defArgs st) (defBody st) (defScope st) .none kV doc pm an cdv ct /\ K.lookup f = some ⟨oc, od, .func fd, osl⟩ /\ PySem.W.codeIn K cdv qual = true
 kp : PySem.W.keepIn K (.ref f) = true
section
variable {P : Program} {w : World} {K : PySem.W.Frag} {mg : Str -> Option Value} {base : Heap}
theorem Fun.ok {x qual : Str} {st : Stmt} {f : Addr} {fd : FuncData} {N ps : List Str} {k : Nat} {sp : Sp} (F : Fun K x qual st f fd) (S : FnScope N ps (defScope st)) (len : ∀ vs H Q E, sp vs H Q E -> vs.length = ps.length)
  (hbody : ∀ (cdv : Value) (A : Around) (outer : List Env) (s : Shared) (H : Hp) (vs : List V) (Q : VK) (E : XK), Room k (A.deeper (envOfC qual (defScope st) s.heap.objs.size f cdv)) -> sp vs H Q E ->
   ∃ t, PSs (cxOf CX0 P w K mg base N qual (defScope st) f cdv A outer s H E).nox (defBody st) t /\ t { nx := fun _ H' => Q .non H', rt := Q } (start N vs) H) : FnOk P w K mg base CX0 (k + 1) f fd ps sp := by
 obtain ⟨oc, od, kV, doc, pm, an, cdv, ct, osl, rfl, lk, hcd⟩ := F.ex
 refine fn_of lk hcd S len fun A outer s H vs Q E hr hsp => ?_
 obtain ⟨t, h, q⟩ := hbody cdv A outer s H vs Q E hr hsp
 exact ⟨t, h.nox, q⟩
theorem Fun.binds {x qual : Str} {st : Stmt} {f : Addr} {fd : FuncData} {ps : List Str} (F : Fun K x qual st f fd)
  (h : ∀ (kV doc pm : Value) (an : Option Addr) (cdv ct : Value) (us : List Value), us.length = ps.length -> bindArgs (PySem.W.fnOf x qual (defArgs st) (defBody st) (defScope st) .none kV doc pm an cdv ct) ⟨us, []⟩ = pure (ps.zip us)) : Binds K fd ps [] := by
 obtain ⟨oc, od, kV, doc, pm, an, cdv, ct, osl, rfl, lk, hcd⟩ := F.ex
 exact .all (h kV doc pm an cdv ct)
theorem fun_mk {x qual : Str} {st : Stmt} {f : Addr} {oc : Value} {od an : Option Addr} {osl : Array (Option Value)} {kV doc pm cdv ct : Value} (l : K.lookup f = some ⟨oc, od, .func (PySem.W.fnOf x qual (defArgs st) (defBody st) (defScope st) .none kV doc pm an cdv ct), osl⟩)
  (c : PySem.W.codeIn K cdv qual = true) (k : PySem.W.keepIn K (.ref f) = true) : Fun K x qual st f (PySem.W.fnOf x qual (defArgs st) (defBody st) (defScope st) .none kV doc pm an cdv ct) := ⟨⟨oc, od, kV, doc, pm, an, cdv, ct, osl, rfl, l, c⟩, k⟩
end
section
variable {X : Cx}
theorem pv (i : Nat) {x : Str} {pos : Pos} (hN : X.N[i]? = some x := by rfl) (hv : Vis X.env.scope x := by first | exact Or.inl rfl | exact Or.inr (Or.inl rfl) | exact Or.inr (Or.inr rfl)) (hd : (x == ("__debug__" : Str)) = false := by decide)
  (hcd : (x == ("__classdict__" : Str)) = false := by decide) : PE X (.Name x pos) (tVar i) := pe_var hN hv hd hcd
end
def Same (H H' : Hp) : Prop := ∀ b o, H b = some o -> H' b = some o
theorem Same.refl (H : Hp) : Same H H := fun _ _ h => h
theorem Same.trans {H H1 H2 : Hp} (a : Same H H1) (b : Same H1 H2) : Same H H2 := fun c o h => b c o (a c o h)
theorem Same.seq {K : PySem.W.Frag} {H H' : Hp} {a : Addr} {xs : List V} (e : Same H H') (h : SqL K H a xs) : SqL K H' a xs := by
 rcases h with (h | ⟨o, h⟩) | h
 ·exact .inl (.inl (e _ _ h))
 ·exact .inl (.inr ⟨o, e _ _ h⟩)
 ·exact .inr h
end L2
namespace L2
open PySem PySem.Spec PyProof.Rows
def clOf (env : Env) : List (Str × NameKind) -> List (Str × Addr) -> List (Str × Addr)
 | [], cs => cs
 | (n, k) :: r, cs => clOf env r (if k == .free then (match env.cells.lookup n with | some c => (n, c) :: cs | none => cs) else cs)
theorem clOf_sub {env : Env} : ∀ {l : List (Str × NameKind)} {cs : List (Str × Addr)}, (∀ n c, (n, c) ∈ cs -> env.cells.lookup n = some c) -> ∀ n c, (n, c) ∈ clOf env l cs -> env.cells.lookup n = some c
 | [], cs, h, n, c, m => h n c m
 | (n', k) :: r, cs, h, n, c, m => by
  unfold clOf at m
  refine clOf_sub (l := r) (fun a b q => ?_) n c m
  split at q
  ·split at q
   ·rename_i c' hc
    rcases List.mem_cons.mp q with z | z
    ·cases z; exact hc
    ·exact h a b z
   ·exact h a b q
  ·exact h a b q
theorem clOf_keep {env : Env} : ∀ {l : List (Str × NameKind)} {cs : List (Str × Addr)} {p}, p ∈ cs -> p ∈ clOf env l cs
 | [], _, _, h => h
 | (n, k) :: r, cs, p, h => by
  unfold clOf
  refine clOf_keep (l := r) ?_
  split
  ·split
   ·exact List.mem_cons_of_mem _ h
   ·exact h
  ·exact h
theorem clOf_has {env : Env} : ∀ {l : List (Str × NameKind)} {cs : List (Str × Addr)} {n : Str} {c : Addr}, (n, NameKind.free) ∈ l -> env.cells.lookup n = some c -> (n, c) ∈ clOf env l cs
 | [], _, _, _, h, _ => by cases h
 | (n', k) :: r, cs, n, c, h, e => by
  unfold clOf
  rcases List.mem_cons.mp h with z | z
  ·cases z
   refine clOf_keep ?_
   simp [e]
  ·exact clOf_has z e
theorem closureFor_cl {scope : Scope} {env : Env} (h : ∀ n, (n, NameKind.free) ∈ scope.names -> ∃ c, env.cells.lookup n = some c) : closureFor scope env = pure (clOf env scope.names []) := by
 have all : ∀ (l : List (Str × NameKind)) (cs : List (Str × Addr)), (∀ n, (n, NameKind.free) ∈ l -> ∃ c, env.cells.lookup n = some c) ->
   (forIn l cs (fun (x : Str × NameKind) (r : List (Str × Addr)) => (match x with | (name, kind) => if (kind == NameKind.free) = true then (do let a ← cellOf env name; pure (ForInStep.yield ((name, a) :: r))) else pure (ForInStep.yield r) : Sem (ForInStep (List (Str × Addr)))))) = (pure (clOf env l cs) : Sem (List (Str × Addr))) := by
  intro l
  induction l with
  | nil => intro cs _; rfl
  | cons p r ih =>
   intro cs hl
   obtain ⟨n, k⟩ := p
   have hr : ∀ n, (n, NameKind.free) ∈ r -> ∃ c, env.cells.lookup n = some c := fun n m => hl n (List.mem_cons_of_mem _ m)
   rw [List.forIn_cons]
   unfold clOf
   by_cases hk : k = .free
   ·subst hk
    obtain ⟨c, hc⟩ := hl n List.mem_cons_self
    have e : cellOf env n = pure c := by unfold cellOf; rw [hc]
    simp only [beq_self_eq_true, if_true, e, hc]
    exact ih _ hr
   ·have hb : (k == NameKind.free) = false := by simpa using hk
    simp only [hb, Bool.false_eq_true, if_false]; exact ih _ hr
 unfold closureFor
 exact (congrArg (fun (z : Sem (List (Str × Addr))) => z >>= fun r => pure r) (all scope.names [] h)).trans rfl
def cxLc (X : Cx) (own caps : List Str) (scope : Scope) (C : Addr) (fp : List Addr) (s : Shared) (H : Hp) : Cx where
 prog := X.prog
 w := X.w
 K := X.K
 mg := X.mg
 base := X.base
 A := X.A
 N := own ++ caps
 s₀ := s
 H₀ := H
 env := compEnvC scope (clOf X.env scope.names []) C X.env
 outer := X.stack
 stack := X.stack
 ex := fp
 fn := fun _ => false
 calm := X.calm
 pn := []
 xe := fun _ _ => False
def CapOk (X : Cx) (scope : Scope) (y : Str) (j : Nat) : Prop := X.N[j]? = some y /\ Vis X.env.scope y /\ (X.env.kindOf y == some .local) = false /\ ((relabel scope X.env).names.lookup y == some .cell || (relabel scope X.env).names.lookup y == some .free) = true
def Caps (X : Cx) (scope : Scope) : List Str -> List Nat -> Prop
 | [], [] => True
 | y :: ys, j :: js => CapOk X scope y j /\ Caps X scope ys js
 | _, _ => False
def capV (σ : St) (js : List Nat) : St := js.map fun j => (σ[j]?).join
theorem Caps.at {X : Cx} {scope : Scope} {σ : St} : ∀ {ys : List Str} {js : List Nat} {i : Nat} {y : Str} {v : V}, Caps X scope ys js -> ys[i]? = some y -> (capV σ js)[i]? = some (some v) -> ∃ j, CapOk X scope y j /\ σ[j]? = some (some v)
 | [], [], i, y, v, _, h, _ => by simp at h
 | a :: ys, j :: js, 0, y, v, c, h, e => by
  simp at h; subst h
  refine ⟨j, c.1, ?_⟩
  simp [capV] at e
  cases q : σ[j]? with
  | none =>
   rw [q] at e
   cases e
  | some o =>
   rw [q] at e
   simp at e
   rw [e]
 | a :: ys, j :: js, i + 1, y, v, c, h, e => Caps.at (i := i) c.2 (by simpa using h) (by simpa [capV] using e)
 | [], _ :: _, _, _, _, c, _, _ => c.elim
 | _ :: _, [], _, _, _, c, _, _ => c.elim
theorem Caps.len {X : Cx} {scope : Scope} {σ : St} : ∀ {ys : List Str} {js : List Nat}, Caps X scope ys js -> (capV σ js).length = ys.length
 | [], [], _ => rfl
 | a :: ys, j :: js, c => by simp only [capV, List.map_cons, List.length_cons]; exact congrArg (· + 1) (Caps.len (σ := σ) c.2)
 | [], _ :: _, c => c.elim
 | _ :: _, [], c => c.elim
theorem relabel_free {env : Env} : ∀ {names : List (Str × NameKind)} {x : Str}, (∀ p ∈ names, p.2 ≠ .cell) ->
  ((names.map fun (n, k) => if (k == NameKind.free && env.scope.kind == .function && env.kindOf n == some .cell) then (n, NameKind.cell) else (n, k)).lookup x = some .cell \/
    (names.map fun (n, k) => if (k == NameKind.free && env.scope.kind == .function && env.kindOf n == some .cell) then (n, NameKind.cell) else (n, k)).lookup x = some .free) -> (x, NameKind.free) ∈ names
 | [], _, _, h => by simp at h
 | (n, k) :: r, x, hc, h => by
  have hr : ∀ p ∈ r, p.2 ≠ .cell := fun p hp => hc p (List.mem_cons_of_mem _ hp)
  have hk : k ≠ .cell := hc (n, k) List.mem_cons_self
  have step : ∀ (b : Bool), (List.lookup x ((if b = true then (n, NameKind.cell) else (n, k)) :: r.map fun (n, k) => if (k == NameKind.free && env.scope.kind == .function && env.kindOf n == some .cell) then (n, NameKind.cell) else (n, k)) = some .cell \/
     List.lookup x ((if b = true then (n, NameKind.cell) else (n, k)) :: r.map fun (n, k) => if (k == NameKind.free && env.scope.kind == .function && env.kindOf n == some .cell) then (n, NameKind.cell) else (n, k)) = some .free) -> (b = true -> k = .free) -> (x, NameKind.free) ∈ (n, k) :: r := by
   intro b q hb
   cases hx : x == n with
   | true =>
    have e : x = n := by simpa using hx
    subst e
    cases b with
    | true => rw [hb rfl]; exact List.mem_cons_self
    | false =>
     simp [List.lookup_cons] at q
     rcases q with q | q
     ·exact absurd q hk
     ·rw [q]; exact List.mem_cons_self
   | false =>
    refine List.mem_cons_of_mem _ (relabel_free (env := env) hr ?_)
    cases b <;> simpa [List.lookup_cons, hx] using q
  exact step _ h fun q => by simp at q; exact q.1.1
def PIfs (X : Cx) (ifs : List Expr) (t : TT) : Prop :=
 ∀ (pins : List (Addr × Obj)) (s : Shared) (σ : St) (H : Hp) (Q : Bool -> Hp -> Prop), Inv X pins σ H s -> t σ H Q ->
  wpAny (model X.prog X.w) X.A (forIn ifs true fun c r => if r = true then do let ok ← isTrue c X.env (eval c X.env); pure (ForInStep.yield ok) else pure (ForInStep.yield r)) (TP X pins σ Q) X.xe s
def tYes : TT := fun _ H Q => Q true H
theorem pifs_nil {X : Cx} : PIfs X [] tYes := fun _ _ _ H _ I h => wpAny_tests_nil ⟨H, I, h⟩
theorem pifs_one {X : Cx} {c : Expr} {t : TT} (h : PT X c t) : PIfs X [c] t := fun pins s σ H Q I q => wpAny_tests_one (h pins s σ H Q I q)
abbrev Wn (P : Program) (w : World) (A : Around) {α : Type} (m : Sem α) (Q : α -> Shared -> Prop) (s : Shared) : Prop := wpAny (model P w) A m Q (fun _ _ => False) s
abbrev ifsRun (env : Env) (l : List Expr) : Sem Bool := forIn l true fun c r => if r = true then do let b ← isTrue c env (eval c env); pure (ForInStep.yield b) else pure (ForInStep.yield r)
def LcTurn (P : Program) (w : World) (A : Around) (it acc : Value) (tg elt : Expr) (l : List Expr) (env : Env) (fin : Shared -> Prop) (again : Shared -> Prop) (s : Shared) : Prop :=
 Wn P w A (pyNext it) (fun r a => match r with
  | none => fin a
  | some v => Wn P w A (letOwnedTupleGo tg it v) (fun _ b => Wn P w A (assign tg env v) (fun _ c => Wn P w A (ifsRun env l) (fun ok d =>
    if ok = true then Wn P w A (eval elt env) (fun x e => Wn P w A (call (.builtin "list.append") [acc, x]) (fun _ g => again g) e) d else again d) c) b) a) s
theorem lc_loop {P : Program} {w : World} {A : Around} {R : Result -> Shared -> Prop} {s : Shared} {elt tg iter : Expr} {l : List Expr} {sc : Scope} {pos : Pos} {it acc : Value} {env : Env} (J : Nat -> Shared -> Prop)
  (turn : ∀ n s, J n s -> LcTurn P w A it acc tg elt l env (R (.ok .next)) (fun z => ∃ m, m < n /\ J m z) s) (n : Nat) (h : J n s) : codeAny (model P w) A (.compLoop (.ListComp elt [⟨tg, iter, l, 0⟩] sc pos) 0 it acc env) R s := by
 refine codeAny_loop rfl J (fun k z hz => ?_) n h
 have one := turn k z hz
 show wpAny _ A (Sem.onRaise (compTurn (.ListComp elt [⟨tg, iter, l, 0⟩] sc pos) 0 it acc env) fun x => do noteFrame x env; theTreesLotGoes x) _ _ z
 refine wpAny_noted ?_
 rw [compTurn_list]
 refine wpAny_bind (wpAny_standAt (wpAny_bind (wpAny_mono one (fun r a ha => ?_) fun _ _ f => f.elim)))
 cases r with
 | none => exact wpAny_pure ha
 | some v =>
  refine wpAny_bind (wpAny_mono ha (fun _ b hb => wpAny_bind (wpAny_mono hb (fun _ c hc => wpAny_bind (wpAny_mono hc (fun ok d hd => ?_) fun _ _ f => f.elim)) fun _ _ f => f.elim)) fun _ _ f => f.elim)
  cases ok with
  | false =>
   have q : ∃ m, m < k /\ J m d := hd
   exact wpAny_pure ⟨rfl, q⟩
  | true =>
   have q : Wn P w A (eval elt env) (fun x e => Wn P w A (call (.builtin "list.append") [acc, x]) (fun _ g => ∃ m, m < k /\ J m g) e) d := hd
   exact wpAny_bind (wpAny_bind (wpAny_mono q (fun x e he => wpAny_bind (wpAny_mono he (fun _ g hg => wpAny_pure (wpAny_pure ⟨rfl, hg⟩)) fun _ _ f => f.elim)) fun _ _ f => f.elim))
def tLcB (g : TG) (tt : TT) (te : TE) (k : Nat) (cap : St) (J : It) (H1 : Hp) (Q : VK) : Prop :=
 ∀ D, H1 D = none -> ∃ W : Nat -> Nat -> List V -> Hp -> Prop, (∃ m, W 0 m [] (upd H1 D (.lst []))) /\ ∀ i m ys H, H D = some (.lst ys) -> W i m ys H ->
  (J.stop i H /\ Q (.ref D) H) \/ (J.go i H /\ ∀ x H', J.yld i H x H' -> ∀ vs : St, vs.length = k -> g x (vs ++ cap) H' fun σ2 H2 => (∃ vs' : St, vs'.length = k /\ σ2 = vs' ++ cap) /\ tt σ2 H2 fun b H3 =>
   if b = true then te σ2 H3 fun v H4 => H4 D = some (.lst ys) /\ ys.length < sizeLine /\ ∃ m', m' < m /\ W (i + 1) m' (ys ++ [v]) (upd H4 D (.lst (ys ++ [v]))) else H3 D = some (.lst ys) /\ ∃ m', m' < m /\ W (i + 1) m' ys H3)
def tLc (js : List Nat) (k : Nat) (wi : TI) (g : TG) (tt : TT) (te : TE) : TE := fun σ H Q => wi σ H fun J H1 => tLcB g tt te k (capV σ js) J H1 Q
section
variable {X : Cx} {own caps : List Str} {js : List Nat} {scope : Scope} {tg iter elt : Expr} {ifs : List Expr} {wi : TI} {g : TG} {tt : TT} {te : TE} {pos : Pos}
theorem lc_run {pins : List (Addr × Obj)} {σ : St} {H2 : Hp} {s2 : Shared} {it : Addr} {fp : List Addr} {tn : Nat -> Heap -> Prop} {J : It} {Q : VK} {post : Value -> Addr -> Result -> Shared -> Prop} {E : Value -> Shared -> Prop}
  (hcalm : X.calm = true) (hkind : scope.kind = .function) (hcell : (scope.names.any fun p => p.2 == .cell) = false) (hk : (scope.names.all fun p => !(p.2 == .free) || (X.env.kindOf p.1 == some .cell || X.env.kindOf p.1 == some .free)) = true)
  (hcap : Caps X scope caps js) (hg : ∀ C fp s H, PG (cxLc X own caps scope C fp s H) tg g) (hi : ∀ C fp s H, PIfs (cxLc X own caps scope C fp s H) ifs tt) (he : ∀ C fp s H, PE (cxLc X own caps scope C fp s H) elt te)
  (I2 : Inv X pins σ H2 s2) (T : Turn X.prog X.w X.K tg J fp it tn) (st2 : tn 0 s2.heap) (f2 : ∀ b ∈ fp, FpOk X pins H2 b) (hw : tLcB g tt te own.length (capV σ js) J H2 Q)
  (hpost : ∀ D C s' m H', s'.heap.Ns C m -> s2.heap.objs.size <= C -> FpOk X pins H' C -> Inv X pins σ H' s' -> Q (.ref D) H' -> post (.ref D) C (.ok .next) s') :
  wpAny (model X.prog X.w) X.A (newList []) (fun acc s₃ => wpAny (model X.prog X.w) X.A (newFunctionEnv scope X.env.globals (clOf X.env scope.names []) [] X.env.qual none .none (some X.env)) (fun cenv s₄ =>
   codeAny (model X.prog X.w) X.A (.compStart (.ListComp elt [⟨tg, iter, ifs, 0⟩] scope pos) 0 (.ref it) acc { cenv with scope := relabel scope X.env }) (post acc cenv.locals) s₄) E s₃) E s2 := by
 have hcell' : ∀ y ∈ scope.names, y.2 ≠ .cell := fun y hy e => by
  have := (List.any_eq_false.mp hcell) y hy
  simp [e] at this
 have hfr : ∀ n, (n, NameKind.free) ∈ scope.names -> X.env.kindOf n = some .cell \/ X.env.kindOf n = some .free := fun n hn => by
  have := (List.all_eq_true.mp hk) _ hn
  simpa using this
 refine wpAny_newObj_type (wpAny_newFunctionEnv hcell' (by intro y hy; simp at hy) (fun h₁ hns₁ hsb₁ => ?_) hkind)
 dsimp only at hns₁ hsb₁ ⊢
 generalize hHp : s2.heap.push { cls := .type "list", dict := none, data := .seq ([] : List Value).toArray } = G2 at hns₁ hsb₁ ⊢
 have hC : G2.objs.size = s2.heap.objs.size + 1 := by rw [← hHp, Heap.size_push]
 obtain ⟨D, hDe⟩ : ∃ D : Nat, s2.heap.objs.size = D := ⟨_, rfl⟩
 obtain ⟨C, hCe⟩ : ∃ C : Nat, G2.objs.size = C := ⟨_, rfl⟩
 rw [hCe] at hns₁ hsb₁
 rw [hDe, hCe] at hC
 show codeAny _ _ (.compStart _ 0 (.ref it) (.ref s2.heap.objs.size) (compEnvC scope (clOf X.env scope.names []) G2.objs.size X.env)) (post (.ref s2.heap.objs.size) G2.objs.size) _
 rw [hDe, hCe]
 have hDC : D ≠ C := by omega
 have hDCl : D < C := by omega
 have old : ∀ b o, s2.heap.get? b = some o -> h₁.get? b = some o := fun b o e => by
  have hlt : b < D := hDe ▸ Heap.lt_size e
  exact hsb₁.extBut b o (Nat.ne_of_lt (Nat.lt_trans hlt hDCl)) (Heap.get?_push_of_some _ (hHp ▸ Heap.get?_push_of_some _ e))
 have hD2 : H2 D = none := I2.hok.fresh (Nat.le_of_eq hDe)
 have hC2 : H2 C = none := I2.hok.fresh (by rw [hDe]; omega)
 have accD : h₁.get? D = some { cls := .type "list", data := .seq ([] : List Value).toArray } := hsb₁.extBut _ _ hDC (Heap.get?_push_of_some _ (hHp ▸ hDe ▸ Heap.get?_push_size _ rfl))
 obtain ⟨W, ⟨m0, w0⟩, turn⟩ := hw D hD2
 -- the block's own state
 have fpn : ∀ b ∈ fp, H2 b = none := fun b hb => (f2 b hb).1
 have fplt : ∀ b ∈ fp, b < D := fun b hb => by obtain ⟨o, e, _⟩ := T.obj _ _ st2 b hb; exact hDe ▸ Heap.lt_size e
 have clsub : ∀ n c, (n, c) ∈ clOf X.env scope.names [] -> X.env.cells.lookup n = some c := clOf_sub (by intro _ _ z; cases z)
 have cllook : ∀ n c, (clOf X.env scope.names []).lookup n = some c -> X.env.cells.lookup n = some c := fun n c e => clsub n c (PySem.mem_of_lookup e)
 have clhas : ∀ n, (n, NameKind.free) ∈ scope.names -> ∃ c, (clOf X.env scope.names []).lookup n = some c /\ X.env.cells.lookup n = some c := fun n hn => by
  obtain ⟨c, e⟩ := I2.ok.has n (hfr n hn)
  have m := clOf_has (cs := []) hn e
  cases q : (clOf X.env scope.names []).lookup n with
  | none =>
   have := List.lookup_eq_none_iff.mp q _ m
   simp at this
  | some c' => exact ⟨c', rfl, cllook n c' q⟩
 have clt : ∀ x c, (clOf X.env scope.names []).lookup x = some c -> c < D := fun x c e => by
  obtain ⟨v, z⟩ := I2.cell x c (cllook x c e)
  exact hDe ▸ z.lt
 have ok' : (cxLc X own caps scope C fp s2 H2).Ok := by
  refine ⟨I2.ok.mod, hkind, I2.ok.glob, I2.ok.blt, ?_, fun x y c e1 e2 => I2.ok.inj x y c (cllook x c e1) (cllook y c e2), fun x hx => ?_, fun x c z => (by cases z), I2.ok.hd, I2.ok.frames, .inl rfl, fun b hb => ⟨?_, fun x c e => ?_⟩, I2.bs, Nat.le_trans I2.ok.bsz I2.sz, fun b o e hb => ?_, fun b hb hs => ?_, I2.stack, I2.stkFree⟩
  ·show s2.heap.objs.size <= C
   rw [hDe]; omega
  ·have hx' : (relabel scope X.env).names.lookup x = some .cell \/ (relabel scope X.env).names.lookup x = some .free := hx
   obtain ⟨c, e, _⟩ := clhas x (relabel_free hcell' hx')
   exact ⟨c, e⟩
  ·exact Nat.ne_of_lt (Nat.lt_trans (fplt b hb) hDCl)
  ·exact (f2 b hb).2.2.2.2.1 x c (cllook x c e)
  ·rcases (f2 b hb).2.2.2.1 with z | z
   ·exact I2.ok.noex b o e z
   ·exact absurd (Nat.lt_of_lt_of_le (Heap.lt_size (I2.ok.bs b o e).1) z) (Nat.lt_irrefl _)
  ·rcases List.mem_cons.mp (I2.stkSub b hs) with z | z
   ·exact (f2 b hb).2.1 z
   ·exact (f2 b hb).2.2.1 z
 have I4 : Inv (cxLc X own caps scope C fp s2 H2) [] (List.replicate own.length none ++ capV σ js) (upd H2 D (.lst [])) { s2 with heap := h₁, toks := s2.toks + ([] : List (Str × Value)).length } := by
  refine ⟨ok', rfl, I2.bare, Un.laid old (Nat.le_of_eq hDe) hD2, ⟨_, hns₁, fun i x v e1 e2 e3 => ?_⟩, fun x c e => ?_, ?_, fun x c e => ?_, fun p hp => absurd (show p ∈ ([] : List (Addr × Obj)) from hp) (by simp), ?_, ?_⟩
  ·have e1 : (own ++ caps)[i]? = some x := e1
   by_cases hio : i < own.length
   ·rw [List.getElem?_append_left (by simpa using hio), List.getElem?_replicate] at e2
    split at e2 <;> cases e2
   ·have hle : own.length <= i := Nat.le_of_not_lt hio
    rw [List.getElem?_append_right hle] at e1
    rw [List.getElem?_append_right (by simpa using hle)] at e2
    obtain ⟨j, c, e⟩ := Caps.at (σ := σ) hcap e1 (by simpa using e2)
    obtain ⟨c1, c2, c3, c4⟩ := c
    obtain ⟨m, hn, hl⟩ := I2.loc
    obtain ⟨u, r, lk⟩ := hl j x v c1 e c2
    refine ⟨u, r, .inr ⟨?_, ?_⟩⟩
    ·have c4' : (relabel scope X.env).names.lookup x = some .cell \/ (relabel scope X.env).names.lookup x = some .free := by simpa using c4
     exact c4'
    ·have c4' : (relabel scope X.env).names.lookup x = some .cell \/ (relabel scope X.env).names.lookup x = some .free := by simpa using c4
     obtain ⟨c', q1, q2⟩ := clhas x (relabel_free hcell' c4')
     rcases lk with ⟨k1, _⟩ | ⟨_, c'', k2, k3⟩
     ·rw [k1] at c3; simp at c3
     ·rw [q2] at k2; cases k2
      obtain ⟨oc, hoc, hod⟩ := k3
      exact ⟨c', q1, oc, old _ _ hoc, hod⟩
  ·obtain ⟨v, oc, hoc, hod⟩ := I2.cell x c (cllook x c e)
   exact ⟨v, oc, old _ _ hoc, hod⟩
  ·show upd H2 D (.lst []) C = none
   rw [upd_ne (Ne.symm hDC)]; exact hC2
  ·rw [upd_ne (Nat.ne_of_lt (clt x c e))]; exact I2.freeC x c (cllook x c e)
  ·exact I2.hok.laid old (Nat.le_of_eq hDe) ⟨Nat.zero_le _, [], 0, .nil, accD⟩
  ·show (List.replicate own.length none ++ capV σ js).length = (own ++ caps).length
   rw [List.length_append, List.length_append, List.length_replicate, hcap.len]
 have stat : ∀ {H' : Hp}, (∀ b ∈ fp, H' b = none) -> ∀ b ∈ fp, FpOk (cxLc X own caps scope C fp s2 H2) [] H' b := fun hn b hb =>
  ⟨hn b hb, (ok'.exf b hb).1, ok'.exfs b hb, .inl hb, (ok'.exf b hb).2, fun p hp => absurd (show p ∈ ([] : List (Addr × Obj)) from hp) (by simp)⟩
 have loop : ∀ s₃ : Shared, s₃ = { s2 with heap := h₁, toks := s2.toks + ([] : List (Str × Value)).length } ->
   codeAny (model X.prog X.w) X.A (.compLoop (.ListComp elt [⟨tg, iter, ifs, 0⟩] scope pos) 0 (.ref it) (.ref D) (compEnvC scope (clOf X.env scope.names []) C X.env)) (post (.ref D) C) s₃ := by
  rintro s₃ rfl
  refine lc_loop (fun n s' => ∃ i vs ys H', vs.length = own.length /\ Inv (cxLc X own caps scope C fp s2 H2) [] (vs ++ capV σ js) H' s' /\ tn i s'.heap /\ (∀ b ∈ fp, H' b = none) /\ H' D = some (.lst ys) /\ W i n ys H') ?_ m0
   ⟨0, List.replicate own.length none, [], upd H2 D (.lst []), by simp, I4, T.keep _ _ _ st2 fun b _ o e => old b o e, fun b hb => by rw [upd_ne (Nat.ne_of_lt (fplt b hb))]; exact fpn b hb, upd_same, w0⟩
  rintro n s3 ⟨i, vs, ys, H3, hvs, I3, st3, fr3, hD3, w3⟩
  rcases turn i n ys H3 hD3 w3 with ⟨stop, qn⟩ | ⟨go, step⟩
  ·refine thn (T.done (cxLc X own caps scope C fp s2 H2) rfl rfl rfl hcalm i [] s3 _ H3 (fun _ _ => False) I3 (stat fr3) st3 stop) fun r s5 ⟨hr, I5⟩ => ?_
   subst hr
   obtain ⟨m5, hn5, _⟩ := id I5.loc
   refine hpost D C s5 m5 H3 hn5 (by rw [hDe]; omega) (I2.fpOk (by rw [hDe]; omega) I5.free) ?_ qn
   exact I2.call' (ch := fp) I5.os I5.base I5.hok I5.bare fun b hb => ⟨(f2 b hb).2.2.2.1, (f2 b hb).2.1, (f2 b hb).2.2.2.2⟩
  ·refine thn (T.item (cxLc X own caps scope C fp s2 H2) rfl rfl rfl hcalm i [] s3 _ H3 (fun _ _ => False) I3 (stat fr3) st3 go) fun r s4 ⟨u, hr, h4⟩ => ?_
   subst hr
   refine thn h4 fun _ s5 ⟨x, H5, I5, r5, y5, st5, fr5⟩ => ?_
   have I5' := I5.pinned (stat fr5) (T.obj _ _ st5); refine thn (hg C fp s2 H2 _ s5 _ H5 x u _ I5' r5 (step x H5 y5 vs hvs)) fun _ s6 ⟨σ6, H6, I6, ⟨vs6, hvs6, e6⟩, q6⟩ => ?_
   subst e6
   refine thn (hi C fp s2 H2 _ s6 _ H6 _ I6 q6) fun b s7 ⟨H7, I7, q7⟩ => ?_
   have again : ∀ {H8 : Hp} {s8 : Shared} {ys' : List V}, Inv (cxLc X own caps scope C fp s2 H2) ([] ++ pinsAt fp s5.heap) (vs6 ++ capV σ js) H8 s8 -> H8 D = some (.lst ys') -> (∃ m', m' < n /\ W (i + 1) m' ys' H8) ->
     ∃ m, m < n /\ ∃ i vs ys H', vs.length = own.length /\ Inv (cxLc X own caps scope C fp s2 H2) [] (vs ++ capV σ js) H' s8 /\ tn i s8.heap /\ (∀ b ∈ fp, H' b = none) /\ H' D = some (.lst ys) /\ W i m ys H' := fun {H8 s8 ys'} I8 hD8 w8 => by
    obtain ⟨m', hm, w8⟩ := w8
    refine ⟨m', hm, i + 1, vs6, ys', H8, hvs6, I8.unpinned, T.keep _ _ _ st5 fun b hb o e => (I8.pin (b, o) (List.mem_append_right _ (List.mem_append_right _ (mem_pinsAt hb e)))).1, fun b hb => ?_, hD8, w8⟩
    obtain ⟨o, e, d⟩ := T.obj _ _ st5 b hb
    exact (I8.pin (b, o) (List.mem_append_right _ (List.mem_append_right _ (mem_pinsAt hb e)))).2.1
   cases b with
   | false => exact again I7 q7.1 q7.2
   | true =>
    refine thn (he C fp s2 H2 _ s7 _ H7 _ I7 q7) fun y s8 ⟨v, H8, I8, r8, hD8, hz8, q8⟩ => ?_
    refine thn (mt_append (X := cxLc X own caps scope C fp s2 H2) _ s8 _ H8 (.ref D) [v] (.ref D) [y] (fun z H9 => H9 = upd H8 D (.lst (ys ++ [v]))) I8 rfl (.cons r8 .nil) ⟨D, ys, v, rfl, rfl, hD8, hz8, rfl⟩) fun _ s9 ⟨z, H9, I9, _, e9⟩ => ?_
    subst e9
    exact again I9 upd_same q8
 refine codeAny_compStart_list (loop _ rfl) (T.self _ 0 _ _ _ (T.keep _ _ _ st2 fun b _ o e => old b o e) (loop _ rfl))
theorem pe_lc (hcalm : X.calm = true) (hkind : scope.kind = .function) (hnames : (scope.names.all fun p => !(p.2 == .local) || (scope.names.lookup p.1 == some .local)) = true) (hcell : (scope.names.any fun p => p.2 == .cell) = false)
  (hk : (scope.names.all fun p => !(p.2 == .free) || (X.env.kindOf p.1 == some .cell || X.env.kindOf p.1 == some .free)) = true)
  (hcap : Caps X scope caps js) (hi : PI X tg iter wi) (hg : ∀ C fp s H, PG (cxLc X own caps scope C fp s H) tg g) (ht : ∀ C fp s H, PIfs (cxLc X own caps scope C fp s H) ifs tt) (he : ∀ C fp s H, PE (cxLc X own caps scope C fp s H) elt te)
  (hs : ∀ x, foldedSetIterable iter X.env x = pure x := by intro _; rfl) : PE X (.ListComp elt [⟨tg, iter, ifs, 0⟩] scope pos) (tLc js own.length wi g tt te) := by
 refine ⟨?_⟩
 intro pins s σ H Q I h
 have hfr : ∀ n, (n, NameKind.free) ∈ scope.names -> X.env.kindOf n = some .cell \/ X.env.kindOf n = some .free := fun n hn => by
  have := (List.all_eq_true.mp hk) _ hn
  simpa using this
 have hn' : ∀ x ∈ scope.names, x.2 = .local -> scope.names.lookup x.1 = some .local := fun x hx e => by
  have := (List.all_eq_true.mp hnames) _ hx
  simpa [e] using this
 rw [eval_ListComp]
 refine wpAny_comprehension_free (use := none) rfl hs (closureFor_cl fun n hn => I.ok.has n (hfr n hn)) hkind hn' (thn (hi pins s σ H _ I h) fun v s1 h1 => thn h1 fun itv s2 h2 => ?_)
 obtain ⟨it, fp, tn, J, H2, e, I2, T, st2, f2, hw⟩ := h2
 subst e
 refine lc_run (iter := iter) (pos := pos) (post := fun acc C => compPost (model X.prog X.w) X.A X.xe none (EP X pins σ Q) acc C) hcalm hkind hcell hk hcap hg ht he I2 T st2 f2 hw ?_
 intro D C s' m H' hn _ f hI hq
 exact ⟨m, hn, fun h' hs' => ⟨.ref D, H', hI.turned (t' := s'.toks) (fun b o hb e => (hs'.2 b hb).trans e) f.1 f.2.1 f.2.2.2.1 f.2.2.2.2.1 f.2.2.2.2.2, rfl, hq⟩⟩
theorem ps_setLc {i : Nat} {y : Str} {py : Pos} {spos : Pos} (hsw : swapsWith (.ListComp elt [⟨tg, iter, ifs, 0⟩] scope pos) (some (.Name y py)) spos.line X.env = pure true) (hN : X.N.Nodup) (hy : X.N[i]? = some y) (hyl : X.env.scope.names.lookup y = some .local)
  (hcalm : X.calm = true) (hkind : scope.kind = .function) (hnames : (scope.names.all fun p => !(p.2 == .local) || (scope.names.lookup p.1 == some .local)) = true) (hcell : (scope.names.any fun p => p.2 == .cell) = false)
  (hk : (scope.names.all fun p => !(p.2 == .free) || (X.env.kindOf p.1 == some .cell || X.env.kindOf p.1 == some .free)) = true)
  (hcap : Caps X scope caps js) (hi : PI X tg iter wi) (hg : ∀ C fp s H, PG (cxLc X own caps scope C fp s H) tg g) (ht : ∀ C fp s H, PIfs (cxLc X own caps scope C fp s H) ifs tt) (he : ∀ C fp s H, PE (cxLc X own caps scope C fp s H) elt te)
  (hs : ∀ x, foldedSetIterable iter X.env x = pure x := by intro _; rfl) : PS X (.Assign [.Name y py] (.ListComp elt [⟨tg, iter, ifs, 0⟩] scope pos) spos) (fun D σ H => tLc js own.length wi g tt te σ H fun v H' => D.nx (σ.set i (some v)) H') := by
 refine ⟨?_⟩
 intro pins s σ H D I h
 have hfr : ∀ n, (n, NameKind.free) ∈ scope.names -> X.env.kindOf n = some .cell \/ X.env.kindOf n = some .free := fun n hn => by
  have := (List.all_eq_true.mp hk) _ hn
  simpa using this
 have hn' : ∀ x ∈ scope.names, x.2 = .local -> scope.names.lookup x.1 = some .local := fun x hx e => by
  have := (List.all_eq_true.mp hnames) _ hx
  simpa [e] using this
 rw [exec_Assign_Name_used _ _ _ _ hsw]; refine wpAny_bind (wpAny_standAt (wpAny_bind ?_))
 show wpAny _ _ (do let _ ← comprehension (.ListComp elt [⟨tg, iter, ifs, 0⟩] scope pos) scope X.env _ (newList []) false (eval iter X.env) (some (assign (.Name y py) X.env))) _ _ s
 refine wpAny_bind (wpAny_mono (wpAny_comprehension_free (use := some (assign (.Name y py) X.env)) (Q := fun _ s' => SP X pins D .next s') rfl hs (closureFor_cl fun n hn => I.ok.has n (hfr n hn)) hkind hn'
  (thn (hi pins s σ H _ I h) fun v s1 h1 => thn h1 fun itv s2 h2 => ?_)) (fun _ s' hq => wpAny_pure (wpAny_pure hq)) fun _ _ e => e)
 obtain ⟨it, fp, tn, J, H2, e, I2, T, st2, f2, hw⟩ := h2
 subst e
 refine lc_run (iter := iter) (pos := pos) (post := fun acc C => compPost (model X.prog X.w) X.A X.xe (some (assign (.Name y py) X.env)) (fun _ s' => SP X pins D .next s') acc C) hcalm hkind hcell hk hcap hg ht he I2 T st2 f2 hw ?_
 intro Da C s' m H' hn hCs f I' hq
 show wpAny _ _ (assign (.Name y py) X.env (.ref Da)) _ _ _
 refine wpAny_assign_Name (store_ok2 (v := .ref Da) (u := .ref Da) I' hN hy (.inl hyl) rfl (fun s6 I6 hs6 => ?_) (.inr hyl))
 obtain ⟨a, hsb, ha⟩ := hs6
 have haC : a ≠ C := by
  rcases ha with z | z
  ·rw [z]; exact Ne.symm f.2.1
  ·exact f.2.2.2.2.1 y a z
 exact ⟨m, hn.sameBut hsb (Ne.symm haC), fun h' hs' => ⟨σ.set i (some (.ref Da)), H', I6.turned (t' := s6.toks) (fun b o hb e => (hs'.2 b hb).trans e) f.1 f.2.1 f.2.2.2.1 f.2.2.2.2.1 f.2.2.2.2.2, hq⟩⟩
end
end L2
namespace L2
open PySem PySem.Spec PyProof.Rows
def Cal (P : Program) (w : World) (K : PySem.W.Frag) (mg : Str -> Option Value) (base : Heap) (x : Str) (k : Nat) (sp : Sp) : Prop :=
 ∃ (f : Addr) (fd : FuncData) (ps : List Str), FnOk P w K mg base CX0 k f fd ps sp /\ mg x = some (.ref f) /\ PySem.W.keepIn K (.ref f) = true /\ Binds K fd ps []
def Has (K : PySem.W.Frag) (mg : Str -> Option Value) (x : Str) (st : Stmt) (ps : List Str) : Prop :=
 ∃ (f : Addr) (fd : FuncData), Fun K x x st f fd /\ mg x = some (.ref f) /\ Binds K fd ps []
section
variable {P : Program} {w : World} {K : PySem.W.Frag} {mg : Str -> Option Value} {base : Heap} {x : Str} {st : Stmt} {N ps : List Str} {k : Nat} {sp : Sp}
theorem Has.cal (h : Has K mg x st ps) (S : FnScope N ps (defScope st)) (len : ∀ vs H Q E, sp vs H Q E -> vs.length = ps.length)
  (hbody : ∀ (f : Addr) (cdv : Value) (A : Around) (outer : List Env) (s : Shared) (H : Hp) (vs : List V) (Q : VK) (E : XK), Room k (A.deeper (envOfC x (defScope st) s.heap.objs.size f cdv)) -> sp vs H Q E ->
   ∃ t, PSs (cxOf CX0 P w K mg base N x (defScope st) f cdv A outer s H E).nox (defBody st) t /\ t { nx := fun _ H' => Q .non H', rt := Q } (start N vs) H) : Cal P w K mg base x (k + 1) sp := by
 obtain ⟨f, fd, F, m, b⟩ := h
 exact ⟨f, fd, ps, F.ok S len (hbody f), m, F.kp, b⟩
end
section
variable {X : Cx} {x : Str} {k : Nat} {sp : Sp} {p pos : Pos} {e : Expr} {es : List Expr} {t : TA}
theorem pe_c (c : Cal X.prog X.w X.K X.mg X.base x k sp) (hr : Room k X.A) (ha : PA X (e :: es) t) (hg : Gl X x := by rfl) (hdb : (x == ("__debug__" : Str)) = false := by decide)
  (he : starEach (e :: es) X.env = (false, eval e X.env) :: starEach es X.env := by rfl) (hpl : (backTo pos (starEach es X.env)).any (·.1) = false := by rfl) : PE X (.Call (.Name x p) (e :: es) [] pos) (tCall sp [] E0 t) := by
 obtain ⟨f, fd, ps, F, m, kk, b⟩ := c
 exact pe_call F hr hg m kk b .nil pass0 ha hdb he hpl
end
end L2
namespace L2
open PySem PySem.Spec PyProof.Rows
theorem b_len : bootBuiltins "len" = some (.builtin "len") := by decide +kernel
theorem b_repr : bootBuiltins "repr" = some (.builtin "repr") := by decide +kernel
theorem b_sorted : bootBuiltins "sorted" = some (.builtin "sorted") := by decide +kernel
theorem b_isinstance : bootBuiltins "isinstance" = some (.builtin "isinstance") := by decide +kernel
theorem b_list : bootBuiltins "list" = some (.type "list") := by decide +kernel
theorem b_tuple : bootBuiltins "tuple" = some (.type "tuple") := by decide +kernel
end L2
namespace L2
open PySem PySem.Spec PyProof.Rows
section
variable {X : Cx}
def tyD : PyData -> String
 | .none => "NoneType"
 | .bool _ => "bool"
 | .int _ => "int"
 | .str _ => "str"
 | .list _ => "list"
 | .tuple _ => "tuple"
 | .dict _ => "dict"
def isiD (d : PyData) (n : String) : Bool := match d with
 | .none => n == "NoneType"
 | .bool _ => n == "bool" || n == "int"
 | .int _ => n == "int"
 | .str _ => n == "str"
 | .list _ => n == "list"
 | .tuple _ => n == "tuple"
 | .dict _ => n == "dict"
theorem kit_ok (K : PySem.W.Frag) (d : PyData) (n : String) (hn : n = "str" \/ n = "int" \/ n = "bool" \/ n = "tuple" \/ n = "list") : PySem.W.kitOne K (.type (tyD d)) (.type n) = some (isiD d n) := by
 rcases hn with rfl | rfl | rfl | rfl | rfl <;> cases d <;> rfl
theorem ext_tup (l : Addr) (its : Array Value) (n : Nat) (b : Addr) (jts : Array Value) (m : Nat) (dd : Option Addr) (sl : Array (Option Value)) (z0 : ¬(!its.isEmpty && Builtin.List.listTooLong (its.size + jts.size)) = true) (z1 : its.size <= sizeLine) (z2 : its.size + jts.size <= sizeLine + 1) :
  Meets (Builtin.«list.extend» ⟨[.ref l, .ref b], []⟩) (fun _ R s => s.heap.get? l = some { cls := .type "list", data := .seq its n } /\ s.heap.get? b = some { cls := .type "tuple", dict := dd, data := .seq jts m, slots := sl } /\
   R (.ok (.ret Value.none)) { s with heap := s.heap.update l (Obj.mapSeq fun x => x ++ jts), toks := s.toks }) :=
 .of_wp fun pr wo ar re st h => by
  obtain ⟨he, ge, dr, tk, oz⟩ := st
  obtain ⟨hl, hb, h⟩ := h
  have f1 := PySem.AutoSeq1.idx_int
  have f2 := PySem.AutoSeq1.sub_tuple_tuple
  have f3 := PySem.AutoSeq1.sub_list_list
  have f4 := PySem.AutoSeq1.sub_tuple_list
  have f5 := PySem.AutoSeq1.sub_list_tuple
  have z3 : (its ++ jts).size <= sizeLine + 1 := by
   rw [Array.size_append]
   exact z2
  wp_walk using (wpAny_updateSeq hl rfl (hz := z1) (_hz' := z3)), PySem.AutoSeq1.wpAny_loadPart' hl, PySem.AutoSeq1.wpAny_loadPart' hb
  exact ⟨_, rfl, h⟩
def rExtendT (K : PySem.W.Frag) : V -> List V -> Hp -> VK -> Prop := fun x vs H Q => ∃ l b xs zs, x = .ref l /\ vs = [.ref b] /\ H l = some (.lst xs) /\ SqT K H b zs /\ xs.length + zs.length <= sizeLine /\ Q .non (upd H l (.lst (xs ++ zs)))
theorem mt_extendT : MtM X "list.extend" (rExtendT X.K) := by
 intro pins s σ H x vs v us Q I rx rv h
 obtain ⟨l, b, xs, zs, rfl, rfl, hH, hB, hz, q⟩ := h
 cases rx
 obtain ⟨u, rfl, ru⟩ := rv.one
 cases ru
 obtain ⟨z, its, n, r, hl, e⟩ := I.lstM hH
 obtain ⟨jts, r2, p2, z2⟩ := I.tuple hB
 have hl2 := r2.length
 obtain ⟨⟨c, dd, dt, sl⟩, e2, c2, m, d2⟩ := p2
 simp only at c2 d2
 subst c2 d2
 have hsz : its.toArray.size + jts.toArray.size <= sizeLine := by rw [List.size_toArray, List.size_toArray]; omega
 have hlong : ¬ (!its.toArray.isEmpty && Builtin.List.listTooLong (its.toArray.size + jts.toArray.size)) = true := by
  rw [notLongL hsz, Bool.and_false]
  exact Bool.false_ne_true
 refine call_meets F.slot_list_extend ⟨_, e, rfl⟩ F.entry_list_extend (F.args_list_extend_2 _ _) (ext_tup l its.toArray n b jts.toArray m dd sl hlong (by rw [List.size_toArray]; omega) (by omega)) ⟨e, e2, ?_⟩
 refine ⟨.non, _, I.lset (its' := its ++ jts) hH e (by simp) (r.append r2) ?_, rfl, q⟩
 rw [List.length_append]
 omega
end
end L2
namespace L2
open PySem PySem.Spec PyProof.Rows
def conV : Const -> Option V
 | .str x => some (.str x)
 | .int i => some (.int i)
 | .bool b => some (.bl b)
 | .none => some .non
 | _ => none
def conOf : List Expr -> Option (List V)
 | [] => some []
 | .Constant c _ _ :: r => match conV c with
  | some v => match conOf r with
   | some vs => some (v :: vs)
   | none => none
  | none => none
 | _ => none
theorem star_con {c : Const} {j : Nat} {pos : Pos} {es : List Expr} {env : Env} : starEach (.Constant c j pos :: es) env = (false, eval (.Constant c j pos) env) :: starEach es env := by rfl
def tVs (vs : List V) : TA := fun _ H Q => Q vs H
section
variable {X : Cx}
theorem pe_con1 {c : Const} {j : Nat} {pos : Pos} {v : V} (h : conV c = some v) : PE X (.Constant c j pos) (tC v) := by
 cases c <;> simp [conV] at h <;> subst h
 all_goals first
  | exact pe_str
  | exact pe_int
  | exact pe_bl
  | exact pe_non
theorem pa_consts : ∀ {es : List Expr} {vs : List V}, conOf es = some vs -> PA X es (tVs vs)
 | [], vs, h => by
  cases h
  exact pa_nil
 | e :: es, vs, h => by
  cases e with
  | Constant c j pos =>
   simp only [conOf] at h
   cases h1 : conV c with
   | none =>
    rw [h1] at h
    cases h
   | some v =>
    rw [h1] at h
    cases h2 : conOf es with
    | none => rw [h2] at h; cases h
    | some ws =>
     rw [h2] at h
     cases h
     have p := pa_cons (pe_con1 (X := X) (pos := pos) (j := j) h1) (pa_consts h2) star_con
     exact p
  | _ => simp [conOf] at h
end
end L2
namespace L2
open PySem PySem.Spec PyProof.Rows
structure New (H : Hp) (p : Addr) (o : HO) (H' : Hp) : Prop where
 no : H p = none
 eq : H' = upd H p o
theorem New.at {H H' : Hp} {p : Addr} {o : HO} (n : New H p o H') : H' p = some o := by rw [n.eq, upd_same]
theorem New.keep {H H' : Hp} {p b : Addr} {o u : HO} (n : New H p o H') (e : H b = some u) : H' b = some u := by rw [n.eq, upd_ne (ne_of_none e n.no)]; exact e
structure Chg (H : Hp) (p : Addr) (o : HO) (H' : Hp) : Prop where
 eq : H' = upd H p o
theorem Chg.at {H H' : Hp} {p : Addr} {o : HO} (n : Chg H p o H') : H' p = some o := by rw [n.eq, upd_same]
theorem Chg.keep {H H' : Hp} {p b : Addr} {o u : HO} (n : Chg H p o H') (h : b ≠ p) (e : H b = some u) : H' b = some u := by rw [n.eq, upd_ne h]; exact e
section
variable {X : Cx}
theorem PE.weak {e : Expr} {t t' : TE} (h : PE X e t) (k : ∀ σ H Q, t' σ H Q -> t σ H Q) : PE X e t' := .mk <| fun pins s σ H Q I q => h pins s σ H Q I (k σ H Q q)
theorem OpR.weak {f : Value -> Value -> Sem Value} {r r' : R2} (h : OpR X f r) (k : ∀ x y H Q, r' x y H Q -> r x y H Q) : OpR X f r' := fun pins s σ H x y v u Q I rx ry q => h pins s σ H x y v u Q I rx ry (k x y H Q q)
theorem CallR.weak {f : Value} {r r' : List V -> Hp -> VK -> Prop} (h : CallR X f r) (k : ∀ xs H Q, r' xs H Q -> r xs H Q) : CallR X f r' := fun pins s σ H xs us Q I rv q => h pins s σ H xs us Q I rv (k xs H Q q)
theorem MtM.weak {id : String} {r r' : V -> List V -> Hp -> VK -> Prop} (h : MtM X id r) (k : ∀ x xs H Q, r' x xs H Q -> r x xs H Q) : MtM X id r' := fun pins s σ H x xs v us Q I rx rv q => h pins s σ H x xs v us Q I rx rv (k x xs H Q q)
theorem SlR.weak {r r' : V -> Option Int -> Option Int -> Hp -> VK -> Prop} (h : SlR X r) (k : ∀ x lo hi H Q, r' x lo hi H Q -> r x lo hi H Q) : SlR X r' := by
 intro pins s σ H x v vl vu lo hi sl Q I rx hs pl pu q
 exact h pins s σ H x v vl vu lo hi sl Q I rx hs pl pu (k x lo hi H Q q)
theorem PSet.weak {t t' : TSet} (h : PSet X t) (k : ∀ o i v H Q, t' o i v H Q -> t o i v H Q) : PSet X t' := fun pins s σ H o i v ov iv u Q I ro ri rv q => h pins s σ H o i v ov iv u Q I ro ri rv (k o i v H Q q)
def tTupN (t : TA) : TE := fun σ H Q => t σ H fun xs H1 => xs.length <= sizeLine /\ ∀ p H', New H1 p (.tup xs) H' -> Q (.ref p) H'
def tLstN (t : TA) : TE := fun σ H Q => t σ H fun xs H1 => xs.length <= sizeLine /\ ∀ p H', New H1 p (.lst xs) H' -> Q (.ref p) H'
theorem pe_tupN {es : List Expr} {t : TA} {x1 pos} (h : PA X es t) : PE X (.Tuple es x1 pos) (tTupN t) := by
 refine ⟨?_⟩
 intro pins s σ H Q I hq
 refine wpAny_Tuple_spliced (thn (h pos pins s σ H _ I hq) fun us s1 ⟨xs, H1, I1, r, z, q⟩ => ⟨by rw [← r.length]; exact z, ?_⟩)
 have hf : H1 s1.heap.objs.size = none := I1.hok.fresh (Nat.le_refl _)
 refine ⟨.ref s1.heap.objs.size, upd H1 s1.heap.objs.size (.tup xs), I1.laid (t' := s1.toks) (fun b u e => Heap.get?_push_of_some _ e) (Nat.le_refl _) ?_, rfl, q _ _ ⟨hf, rfl⟩⟩
 exact ⟨z, us, r, ⟨_, Heap.get?_push_size _ rfl, rfl, _, rfl⟩⟩
theorem pe_lstN {es : List Expr} {t : TA} {pos} (h : PA X es t) : PE X (.List es pos) (tLstN t) := by
 refine ⟨?_⟩
 intro pins s σ H Q I hq
 refine wpAny_List_spliced (thn (h pos pins s σ H _ I hq) fun us s1 ⟨xs, H1, I1, r, z, q⟩ => ⟨by rw [← r.length]; exact z, ?_⟩)
 have hf : H1 s1.heap.objs.size = none := I1.hok.fresh (Nat.le_refl _)
 refine ⟨.ref s1.heap.objs.size, upd H1 s1.heap.objs.size (.lst xs), I1.laid (t' := s1.toks) (fun b u e => Heap.get?_push_of_some _ e) (Nat.le_refl _) ?_, rfl, q _ _ ⟨hf, rfl⟩⟩
 exact ⟨z, us, 0, r, Heap.get?_push_size _ rfl⟩
def rSlLN (K : PySem.W.Frag) : V -> Option Int -> Option Int -> Hp -> VK -> Prop := fun x lo hi H Q => ∃ a xs, x = .ref a /\ SqL K H a xs /\ ∀ p H', New H p (.lst (cutV xs lo hi)) H' -> Q (.ref p) H'
theorem sl_listN : SlR X (rSlLN X.K) := sl_list.weak fun x lo hi H Q ⟨a, xs, e, h, q⟩ => ⟨a, xs, e, h, fun p hp => q p _ ⟨hp, rfl⟩⟩
def rSlTN (K : PySem.W.Frag) : V -> Option Int -> Option Int -> Hp -> VK -> Prop := fun x lo hi H Q => ∃ a xs, x = .ref a /\ SqT K H a xs /\ ¬ (HT.sIx xs.length 0 lo = 0 /\ HT.sIx xs.length xs.length hi = xs.length) /\ ∀ p H', New H p (.tup (cutV xs lo hi)) H' -> Q (.ref p) H'
theorem sl_tupN : SlR X (rSlTN X.K) := sl_tup.weak fun x lo hi H Q ⟨a, xs, e, h, n, q⟩ => ⟨a, xs, e, h, n, fun p hp => q p _ ⟨hp, rfl⟩⟩
def rCatN : R2 := fun x y H Q => ∃ l b xs zs, x = .ref l /\ y = .ref b /\ H l = some (.lst xs) /\ H b = some (.lst zs) /\ xs.length + zs.length <= sizeLine /\ ∀ p H', New H p (.lst (xs ++ zs)) H' -> Q (.ref p) H'
theorem op_catN : OpR X (binaryOp .Add) rCatN := op_cat.weak fun x y H Q ⟨l, b, xs, zs, e1, e2, h1, h2, n, q⟩ => ⟨l, b, xs, zs, e1, e2, h1, h2, n, fun p hp => q p _ ⟨hp, rfl⟩⟩
theorem call_listN : CallR X (.type "list") (fun xs H Q => ∃ p ys, xs = [.ref p] /\ (SqL X.K H p ys \/ SqT X.K H p ys) /\ ∀ l H', New H l (.lst ys) H' -> Q (.ref l) H') :=
 call_list_of.weak fun xs H Q ⟨p, ys, e, h, q⟩ => ⟨p, ys, e, h, fun l hl => q l _ ⟨hl, rfl⟩⟩
theorem call_tupleN : CallR X (.type "tuple") (fun xs H Q => ∃ p ys, xs = [.ref p] /\ ((SqL X.K H p ys /\ ∀ l H', New H l (.tup ys) H' -> Q (.ref l) H') \/ (SqT X.K H p ys /\ Q (.ref p) H))) :=
 call_tuple_of.weak fun xs H Q ⟨p, ys, e, h⟩ => ⟨p, ys, e, h.imp (fun ⟨a, q⟩ => ⟨a, fun l hl => q l _ ⟨hl, rfl⟩⟩) id⟩
def rAppendN : V -> List V -> Hp -> VK -> Prop := fun x vs H Q => ∃ l xs y, x = .ref l /\ vs = [y] /\ H l = some (.lst xs) /\ xs.length < sizeLine /\ ∀ H', Chg H l (.lst (xs ++ [y])) H' -> Q .non H'
theorem mt_appendN : MtM X "list.append" rAppendN := mt_append.weak fun x vs H Q ⟨l, xs, y, e1, e2, h, n, q⟩ => ⟨l, xs, y, e1, e2, h, n, q _ ⟨rfl⟩⟩
def rExtendN : V -> List V -> Hp -> VK -> Prop := fun x vs H Q => ∃ l b xs zs, x = .ref l /\ vs = [.ref b] /\ H l = some (.lst xs) /\ H b = some (.lst zs) /\ xs.length + zs.length <= sizeLine /\ ∀ H', Chg H l (.lst (xs ++ zs)) H' -> Q .non H'
theorem mt_extendN : MtM X "list.extend" rExtendN := mt_extend.weak fun x vs H Q ⟨l, b, xs, zs, e1, e2, h, hb, n, q⟩ => ⟨l, b, xs, zs, e1, e2, h, hb, n, q _ ⟨rfl⟩⟩
def rExtendTN (K : PySem.W.Frag) : V -> List V -> Hp -> VK -> Prop := fun x vs H Q => ∃ l b xs zs, x = .ref l /\ vs = [.ref b] /\ H l = some (.lst xs) /\ SqT K H b zs /\ xs.length + zs.length <= sizeLine /\ ∀ H', Chg H l (.lst (xs ++ zs)) H' -> Q .non H'
theorem mt_extendTN : MtM X "list.extend" (rExtendTN X.K) := mt_extendT.weak fun x vs H Q ⟨l, b, xs, zs, e1, e2, h, hb, n, q⟩ => ⟨l, b, xs, zs, e1, e2, h, hb, n, q _ ⟨rfl⟩⟩
def rSetLN : V -> V -> V -> Hp -> (Hp -> Prop) -> Prop := fun o i v H Q => ∃ p xs k j, o = .ref p /\ i = .int k /\ H p = some (.lst xs) /\ ixN xs.length k = some j /\ ∀ H', Chg H p (.lst (xs.set j v)) H' -> Q H'
theorem set_listN : PSet X rSetLN := set_list.weak fun o i v H Q ⟨p, xs, k, j, e1, e2, h, n, q⟩ => ⟨p, xs, k, j, e1, e2, h, n, q _ ⟨rfl⟩⟩
end
end L2
namespace L2
open PySem PySem.Spec PyProof.Rows
theorem Inv.drew {X : Cx} {pins : List (Addr × Obj)} {σ : St} {H : Hp} {s : Shared} (I : Inv X pins σ H s) (d' : Drawn) : Inv X pins σ H { s with drawn := d' } :=
 ⟨I.ok, I.os, I.bare, I.base, I.loc, I.cell, I.free, I.freeC, I.pin, I.hok, I.len⟩
end L2
namespace L2
open PySem PySem.Spec PyProof.Rows
def Nx (n : Nat) (Pv : Addr -> Nat -> List V -> Hp -> Prop) (D : Addr) (i : Nat) (ys : List V) (H : Hp) : Prop := ∃ m', m' < n - i /\ m' = n - (i + 1) /\ i + 1 <= n /\ ys.length <= i + 1 /\ Pv D (i + 1) ys H
theorem nx {n : Nat} {Pv : Addr -> Nat -> List V -> Hp -> Prop} {D : Addr} {i : Nat} {ys : List V} {H : Hp} (hi : i < n) (hl : ys.length <= i + 1) (p : Pv D (i + 1) ys H) : Nx n Pv D i ys H := ⟨n - (i + 1), by omega, rfl, hi, hl, p⟩
end L2
namespace L2
open PySem PySem.Spec PyProof.Rows
theorem Inv.turnedL {X : Cx} {pins : List (Addr × Obj)} {σ : St} {H : Hp} {s : Shared} {h' : Heap} {t' : Nat} {ch : List Addr} (I : Inv X pins σ H s) (k : ∀ b o, b ∉ ch -> s.heap.get? b = some o -> h'.get? b = some o) (hf : ∀ b ∈ ch, FpOk X pins H b) : Inv X pins σ H { s with heap := h', toks := t' } := by
 have no : ∀ b u, H b = some u -> b ∉ ch := fun b u e m => by rw [(hf b m).1] at e; cases e
 refine I.step (g' := s.gens) (d' := s.drawn) (ch := ch) (fun b m => ⟨(hf b m).2.2.2.1, (hf b m).2.1, (hf b m).2.2.2.2.1, (hf b m).2.2.2.2.2⟩) (fun b o _ _ hc e _ => k b o hc e) (fun b o _ _ hc e _ => ⟨o.slots, k b o hc e⟩) (fun _ _ _ _ n => n)
  (fun b o hc e => ⟨o, k b o hc e⟩) (fun _ _ e => e) (fun _ _ _ e => e) (fun b ps e => ⟨#[], by rw [e]; simp⟩) (fun m hm => ?_) (fun b u e => ?_) I.bare
 ·obtain ⟨o, es, ep, ho, r⟩ := hm
  exact ⟨o, es, ep, k _ o (fun z => (hf _ z).2.1 rfl) ho, r⟩
 ·refine (I.hok b u e).stay (fun c v hc q => k c v ?_ q) (fun _ q => q) fun _ _ q => q
  rcases hc with z | z
  ·rw [z]; exact no b u e
  ·exact no c _ z
section
variable {X : Cx}
theorem b_zip : bootBuiltins "zip" = some (.type "zip") := by decide +kernel
end
end L2
namespace L2
open PySem PySem.Spec PyProof.Rows
section
open HT
variable {prog : Program} {w : World} {A : Around} {E : Value -> Shared -> Prop} {s : Shared}
theorem cut_whole {t sl : Addr} {items : Array Value} {vl vu : Value} {lo hi : Option Int} {Q : Value -> Shared -> Prop} (ht : IsTup s.heap t items) (hs : s.heap.IsSliceOf sl vl vu .none) (pl : IsPart vl lo) (pu : IsPart vu hi)
  (hw : sIx items.size 0 lo = 0 /\ sIx items.size items.size hi = items.size) (h : Q (.ref t) s) : wpAny (model prog w) A (getItem (.ref t) (.ref sl)) Q E s := by
 obtain ⟨os, hos, hcs, hds⟩ := id hs
 have hTs : s.TypeIs (.ref sl) "slice" := ⟨os, hos, hcs⟩
 unfold getItem
 try with_reducible refine wpAny_holding ?_
 first | refine wpAny_bind (wpAny_pure ?_) | skip
 refine wpAny_bind (wpAny_sequenceKey ht.typeIs (by decide) (wpAny_bind (wpAny_callSpecial?_slot (name := Str.ofString "__getitem__") ht.typeIs PyProof.Rows.slot_tuple_getitem
  (wpAny_call_entry PyProof.Rows.slot_tuple_getitem ht.typeIs entry_tuple_getitem ?_ (args_tuple_getitem _ _)))))
 show wpAny _ _ (Builtin.Tuple.tupleItemsOf (.ref t) >>= _) _ _ s
 refine wpAny_bind (tupleItemsOf_ ht (wpAny_bind (wpAny_typeOf hTs ?_)))
 rw [if_pos (by decide)]
 refine wpAny_bind (sliceApplied_gen hs pl pu ?_)
 have yes : (((sIx items.size 0 lo : Nat) : Int) == 0 && (1 : Int) == 1 && (sIx items.size items.size hi - sIx items.size 0 lo) == items.size) = true := by
  rw [hw.1, hw.2]; simp
 show wpAny _ _ (if (((sIx items.size 0 lo : Nat) : Int) == 0 && (1 : Int) == 1 && (sIx items.size items.size hi - sIx items.size 0 lo) == items.size) = true then _ else _) _ _ s
 rw [if_pos yes]
 unfold Builtin.Tuple.tupleIsExact
 refine wpAny_bind (wpAny_bind (wpAny_typeOf ht.typeIs (wpAny_pure ?_)))
 rw [if_pos (by decide)]
 exact wpAny_bind (wpAny_rule (wpAny_pure ⟨_, rfl, wpAny_pure h⟩))
end
section
variable {X : Cx}
def rSlTA (K : PySem.W.Frag) : V -> Option Int -> Option Int -> Hp -> VK -> Prop := fun x lo hi H Q => ∃ a xs, x = .ref a /\ SqT K H a xs /\ (cutV xs lo hi = xs -> Q (.ref a) H) /\ ∀ p H', New H p (.tup (cutV xs lo hi)) H' -> Q (.ref p) H'
theorem sl_tupA : SlR X (rSlTA X.K) := by
 intro pins s σ H x v vl vu lo hi sl Q I rx hs pl pu h
 obtain ⟨a, xs, rfl, hx, q1, q2⟩ := h
 by_cases c : HT.sIx xs.length 0 lo = 0 /\ HT.sIx xs.length xs.length hi = xs.length
 ·cases rx
  obtain ⟨its, r, ht, hz⟩ := I.tuple hx
  have hlen : its.toArray.size = xs.length := by rw [List.size_toArray]; exact r.length.symm
  refine ⟨"tuple", _, PyProof.Rows.slot_tuple_getitem.lookup, ht.typeIs, ?_⟩
  refine cut_whole ht hs pl pu (by rw [hlen]; exact c) ⟨.ref a, H, I, rfl, q1 ?_⟩
  unfold cutV
  rw [c.1, c.2]; simp
 ·exact sl_tupN pins s σ H (.ref a) v vl vu lo hi sl Q I rx hs pl pu ⟨a, xs, rfl, hx, c, q2⟩
def rCatTA (K : PySem.W.Frag) : R2 := fun x y H Q => ∃ a b xs ys, x = .ref a /\ y = .ref b /\ SqT K H a xs /\ SqT K H b ys /\ xs.length + ys.length <= sizeLine /\ (xs = [] -> Q (.ref b) H) /\ (xs ≠ [] -> ys = [] -> Q (.ref a) H) /\ (xs ≠ [] -> ys ≠ [] -> ∀ p H', New H p (.tup (xs ++ ys)) H' -> Q (.ref p) H')
theorem op_catTA : OpR X (binaryOp .Add) (rCatTA X.K) := by
 intro pins s σ H x y v u Q I rx ry h
 obtain ⟨a, b, xs, ys, rfl, rfl, ha, hb, hz, q0, q1, q2⟩ := h
 by_cases c : xs = []
 ·cases rx
  cases ry
  obtain ⟨its, r1, p1, _⟩ := I.tuple ha
  obtain ⟨its2, r2, p2, _⟩ := I.tuple hb
  have e0 : its = [] := r1.nil_iff.mpr c
  subst e0
  obtain ⟨⟨cls, dd, data, sl⟩, ho, hc, n, hd⟩ := id p1
  obtain ⟨⟨cls2, dd2, data2, sl2⟩, ho2, hc2, n2, hd2⟩ := id p2
  simp only at hc hd hc2 hd2
  subst hc hd hc2 hd2
  exact concat_meets ⟨_, ho, rfl⟩ ⟨_, ho2, rfl⟩ noFill_tuple_add seq_tuple_add PySem.F.slot_tuple_add PySem.F.entry_tuple_add (PySem.F.args_tuple_add_2 _ _) (tuple_addW0 a b _ _ n n2 dd dd2 sl sl2 (by simp)) ⟨ho, ho2, ⟨.ref b, H, I, rfl, q0 c⟩⟩
 ·exact op_catT pins s σ H (.ref a) (.ref b) v u Q I rx ry ⟨a, b, xs, ys, rfl, rfl, ha, hb, c, hz, q1 c, fun d p hp => q2 c d p _ ⟨hp, rfl⟩⟩
end
end L2
namespace L2
open PySem PySem.Spec PyProof.Rows
def b01 (b : Bool) : Int := if b = true then 1 else 0
def numV : V -> Option Int
 | .int i => some i
 | .bl b => some (b01 b)
 | _ => none
section
variable {X : Cx}
theorem op_addL : OpR X (binaryOp .Add) (fun x y H Q => ∃ i j, numV x = some i /\ y = .int j /\ Q (.int (i + j)) H) := by
 intro pins s σ H x y v u Q I rx ry h
 obtain ⟨i, j, hx, rfl, q⟩ := h
 cases x with
 | int k => cases hx; exact op_add pins s σ H _ _ v u Q I rx ry ⟨_, j, rfl, rfl, q⟩
 | bl b =>
  cases hx
  cases rx
  obtain ⟨t', rfl⟩ := ry
  exact PySem.IntBool.add_bool_int ⟨.int (b01 b + j), H, I.tok _, ⟨_, rfl⟩, q⟩
 | _ => cases hx
end
end L2
namespace L2
open PySem PySem.Spec PyProof.Rows
section
variable {X : Cx}
theorem part_of {v : Value} {o : Option Int} (p : IsPart v o) : ∃ q : Option (Int × Tok), v = partValue q /\ q.map (·.1) = o := by
 cases p with
 | none => exact ⟨none, rfl, rfl⟩
 | int i t => exact ⟨some (i, t), rfl, rfl⟩
end
end L2
namespace PF
open PySem PySem.Spec
open L2
inductive D where
 | da (d : PyData) | con (ds : List PyData) | frz (ds : List PyData) | set (ds : List PyData)
 | ref (n : Nat) | adr (a : Addr) | ty (n : String)
abbrev D.non : D := .da .none
abbrev D.bl (b : Bool) : D := .da (.bool b)
abbrev D.int (i : Int) : D := .da (.int i)
abbrev D.str (x : Str) : D := .da (.str x)
abbrev D.tup (ds : List PyData) : D := .da (.tuple ds)
abbrev D.lst (ds : List PyData) : D := .da (.list ds)
inductive O where
 | lst (ds : List D) | dct (kvs : List (PyData × D)) | set (ds : List D) | ins (C : Str) (fs : List (Str × D)) | gone
abbrev S := List O
inductive R (α : Type) where
 | ok (a : α) (s : S)
 | bad
def R.bind {α β : Type} (r : R α) (f : α -> S -> R β) : R β := match r with
 | .ok a s => f a s
 | .bad => .bad
theorem R.bind_ok {α β : Type} (a : α) (s : S) (f : α -> S -> R β) : (R.ok a s).bind f = f a s := rfl
def R.W {α : Type} (r : R α) (Q : α -> S -> Prop) : Prop := match r with
 | .ok a s => Q a s
 | .bad => False
theorem R.W_ok {α : Type} (a : α) (s : S) (Q : α -> S -> Prop) : (R.ok a s).W Q = Q a s := rfl
theorem R.W_bind {α β : Type} (r : R α) (f : α -> S -> R β) (Q : β -> S -> Prop) : (r.bind f).W Q = r.W fun a s => (f a s).W Q := by cases r <;> rfl
theorem R.W_mono {α : Type} {r : R α} {Q Q' : α -> S -> Prop} (h : r.W Q) (k : ∀ a s, Q a s -> Q' a s) : r.W Q' := by
 cases r with
 | ok a s => exact k a s h
 | bad => exact h
structure As where
 ix : List (Option Addr)
 hd : List Addr
def As.has (as : As) (p : Addr) : Prop := some p ∈ as.ix \/ p ∈ as.hd
abbrev As.add (as : As) (p : Addr) : As := { as with ix := as.ix ++ [some p] }
abbrev As.cut (as : As) (n : Nat) : As := { as with ix := as.ix.set n none }
abbrev As.hide (as : As) (p : Addr) : As := { as with hd := p :: as.hd }
abbrev As.show (as : As) (p : Addr) : As := { as with hd := as.hd.filter fun q => decide (q ≠ p) }
structure Step0 (as : As) (H : Hp) (as' : As) (H' : Hp) : Prop where
 len : as.ix.length <= as'.ix.length
 old : ∀ n : Nat, n < as.ix.length -> as'.ix[n]? = as.ix[n]? \/ as'.ix[n]? = some none
 back : ∀ p, as'.has p -> as.has p \/ H p = none
 keep : ∀ b o, ¬ as.has b -> H b = some o -> H' b = some o
 dom : ∀ b, H b ≠ none -> H' b ≠ none
structure Step (as : As) (H : Hp) (as' : As) (H' : Hp) : Prop extends Step0 as H as' H' where
 hk : ∀ p ∈ as.hd, p ∈ as'.hd
 hh : ∀ p ∈ as.hd, ∀ o, H p = some o -> H' p = some o
theorem Step.refl (as : As) (H : Hp) : Step as H as H where
 len := Nat.le_refl _
 old _ _ := .inl rfl
 back _ h := .inl h
 keep _ _ _ e := e
 dom _ e := e
 hk _ h := h
 hh _ _ _ e := e
theorem mem_as {as : As} {p : Addr} : some p ∈ as.ix ↔ ∃ n : Nat, as.ix[n]? = some (some p) := by
 rw [List.mem_iff_getElem?]
theorem Step0.out {as as' : As} {H H' : Hp} (st : Step0 as H as' H') {b : Addr} {o : HO} (n : ¬ as.has b) (e : H b = some o) : ¬ as'.has b := fun m => by
 rcases st.back b m with q | q
 ·exact n q
 ·rw [e] at q; cases q
theorem Step0.trans {as as1 as2 : As} {H H1 H2 : Hp} (a : Step0 as H as1 H1) (b : Step0 as1 H1 as2 H2) : Step0 as H as2 H2 where
 len := Nat.le_trans a.len b.len
 old n hn := by
  rcases b.old n (Nat.lt_of_lt_of_le hn a.len) with q | q
  ·rw [q]; exact a.old n hn
  ·exact .inr q
 back p h := by
  rcases b.back p h with q | q
  ·exact a.back p q
  ·right
   cases z : H p with
   | none => rfl
   | some o => exact absurd q (a.dom p (by rw [z]; simp))
 keep b' o n e := b.keep b' o (a.out n e) (a.keep b' o n e)
 dom b' e := b.dom b' (a.dom b' e)
theorem Step.trans {as as1 as2 : As} {H H1 H2 : Hp} (a : Step as H as1 H1) (b : Step as1 H1 as2 H2) : Step as H as2 H2 := ⟨a.toStep0.trans b.toStep0, fun p h => b.hk p (a.hk p h), fun p h o e => b.hh p (a.hk p h) o (a.hh p h o e)⟩
mutual
inductive TD (as : As) (H : Hp) : V -> PyData -> Prop
 | non : TD as H .non .none
 | bl (b : Bool) : TD as H (.bl b) (.bool b)
 | int (i : Int) : TD as H (.int i) (.int i)
 | str (x : Str) : TD as H (.str x) (.str x)
 | tup {p : Addr} {xs : List V} {ds : List PyData} : ¬ as.has p -> H p = some (.tup xs) -> TDs as H xs ds -> TD as H (.ref p) (.tuple ds)
 | lst {p : Addr} {xs : List V} {ds : List PyData} : ¬ as.has p -> H p = some (.lst xs) -> TDs as H xs ds -> TD as H (.ref p) (.list ds)
inductive TDs (as : As) (H : Hp) : List V -> List PyData -> Prop
 | nil : TDs as H [] []
 | cons {x : V} {xs : List V} {d : PyData} {ds : List PyData} : TD as H x d -> TDs as H xs ds -> TDs as H (x :: xs) (d :: ds)
end
inductive RD (K : PySem.W.Frag) (as : As) (H : Hp) : V -> D -> Prop
 | da {v : V} {d : PyData} : TD as H v d -> RD K as H v (.da d)
 | ty (n : String) : RD K as H (.ty n) (.ty n)
 | adr (a : Addr) : RD K as H (.ref a) (.adr a)
 | con {p : Addr} {xs : List V} {ds : List PyData} : (∀ H', SqT K H' p xs) -> TDs as H xs ds -> RD K as H (.ref p) (.con ds)
 | frz {p : Addr} {xs : List V} {ds : List PyData} : (∀ as' H', Step0 as H as' H' -> SqL K H' p xs) -> TDs as H xs ds -> RD K as H (.ref p) (.frz ds)
 | ref {p : Addr} {n : Nat} : n < as.ix.length -> (∀ q, as.ix[n]? = some (some q) -> q = p) -> RD K as H (.ref p) (.ref n)
inductive RDs (K : PySem.W.Frag) (as : As) (H : Hp) : List V -> List D -> Prop
 | nil : RDs K as H [] []
 | cons {x : V} {xs : List V} {d : D} {ds : List D} : RD K as H x d -> RDs K as H xs ds -> RDs K as H (x :: xs) (d :: ds)
def kP : Key -> PyData
 | .inl i => .int i
 | .inr x => .str x
def isT : PyData -> Bool
 | .tuple xs => keyOk (.tuple xs)
 | _ => false
inductive DRs (K : PySem.W.Frag) (as : As) (H : Hp) : List (PyData × V) -> List (PyData × D) -> Prop
 | nil : DRs K as H [] []
 | cons {k : PyData} {v : V} {d : D} {l : List (PyData × V)} {kvs : List (PyData × D)} : RD K as H v d -> DRs K as H l kvs -> DRs K as H ((k, v) :: l) ((k, d) :: kvs)
def pvK (l : List (Key × V)) : List (PyData × V) := l.map fun e => (kP e.1, e.2)
def RO (K : PySem.W.Frag) (as : As) (H : Hp) (p : Addr) : O -> Prop
 | .lst ds => ∃ xs, H p = some (.lst xs) /\ RDs K as H xs ds
 | .dct kvs => (∃ l : List (Key × V), H p = some (.dK l) /\ DRs K as H (pvK l) kvs) \/ ∃ l : List (PyData × V), (l ≠ [] /\ (l.all fun e => isT e.1) = true) /\ H p = some (.dD l) /\ DRs K as H l kvs
 | _ => False
structure Rel (K : PySem.W.Frag) (as : As) (H : Hp) (s : S) : Prop where
 len : as.ix.length = s.length
 nd : ∀ (i j : Nat) (p : Addr), as.ix[i]? = some (some p) -> as.ix[j]? = some (some p) -> i = j
 ob : ∀ (n : Nat) (p : Addr) (o : O), as.ix[n]? = some (some p) -> s[n]? = some o -> RO K as H p o
 li : ∀ (n : Nat) (o : O), s[n]? = some o -> o ≠ .gone -> ∃ p, as.ix[n]? = some (some p)
 hs : ∀ p ∈ as.hd, ∃ xs, H p = some (.lst xs)
 hx : ∀ p ∈ as.hd, some p ∉ as.ix
mutual
theorem TD.mono0 {as as' : As} {H H' : Hp} (st : Step0 as H as' H') : ∀ {v : V} {d : PyData}, TD as H v d -> TD as' H' v d
 | _, _, .non => .non
 | _, _, .bl b => .bl b
 | _, _, .int i => .int i
 | _, _, .str x => .str x
 | _, _, .tup n e r => .tup (st.out n e) (st.keep _ _ n e) (TDs.mono0 st r)
 | _, _, .lst n e r => .lst (st.out n e) (st.keep _ _ n e) (TDs.mono0 st r)
theorem TDs.mono0 {as as' : As} {H H' : Hp} (st : Step0 as H as' H') : ∀ {vs : List V} {ds : List PyData}, TDs as H vs ds -> TDs as' H' vs ds
 | _, _, .nil => .nil
 | _, _, .cons a r => .cons (TD.mono0 st a) (TDs.mono0 st r)
end
theorem RD.mono0 {K : PySem.W.Frag} {as as' : As} {H H' : Hp} (st : Step0 as H as' H') {v : V} {d : D} (h : RD K as H v d) : RD K as' H' v d := by
 cases h with
 | da t => exact .da (t.mono0 st)
 | ty n => exact .ty n
 | adr a => exact .adr a
 | con h r => exact .con h (r.mono0 st)
 | frz h r => exact .frz (fun as' H' s2 => h as' H' (st.trans s2)) (r.mono0 st)
 | ref l h =>
  refine .ref (Nat.lt_of_lt_of_le l st.len) fun q e => ?_
  rcases st.old _ l with z | z
  ·rw [z] at e; exact h q e
  ·rw [z] at e; cases e
theorem RDs.mono0 {K : PySem.W.Frag} {as as' : As} {H H' : Hp} (st : Step0 as H as' H') : ∀ {vs : List V} {ds : List D}, RDs K as H vs ds -> RDs K as' H' vs ds
 | _, _, .nil => .nil
 | _, _, .cons a r => .cons (RD.mono0 st a) (RDs.mono0 st r)
theorem DRs.mono0 {K : PySem.W.Frag} {as as' : As} {H H' : Hp} (st : Step0 as H as' H') : ∀ {l : List (PyData × V)} {kvs : List (PyData × D)}, DRs K as H l kvs -> DRs K as' H' l kvs
 | _, _, .nil => .nil
 | _, _, .cons a r => .cons (RD.mono0 st a) (DRs.mono0 st r)
theorem DRs.mono {K : PySem.W.Frag} {as as' : As} {H H' : Hp} (st : Step as H as' H') {l : List (PyData × V)} {kvs : List (PyData × D)} (h : DRs K as H l kvs) : DRs K as' H' l kvs := h.mono0 st.toStep0
theorem TD.mono {as as' : As} {H H' : Hp} (st : Step as H as' H') {v : V} {d : PyData} (h : TD as H v d) : TD as' H' v d := h.mono0 st.toStep0
theorem TDs.mono {as as' : As} {H H' : Hp} (st : Step as H as' H') {v : List V} {d : List PyData} (h : TDs as H v d) : TDs as' H' v d := h.mono0 st.toStep0
theorem RD.mono {K : PySem.W.Frag} {as as' : As} {H H' : Hp} (st : Step as H as' H') {v : V} {d : D} (h : RD K as H v d) : RD K as' H' v d := h.mono0 st.toStep0
theorem RDs.mono {K : PySem.W.Frag} {as as' : As} {H H' : Hp} (st : Step as H as' H') {v : List V} {d : List D} (h : RDs K as H v d) : RDs K as' H' v d := h.mono0 st.toStep0
section
variable {K : PySem.W.Frag} {as : As} {H : Hp}
theorem RDs.length : ∀ {vs : List V} {ds : List D}, RDs K as H vs ds -> vs.length = ds.length
 | _, _, .nil => rfl
 | _, _, .cons _ r => congrArg (· + 1) (RDs.length r)
theorem RDs.append : ∀ {vs ws : List V} {ds es : List D}, RDs K as H vs ds -> RDs K as H ws es -> RDs K as H (vs ++ ws) (ds ++ es)
 | _, _, _, _, .nil, s => s
 | _, _, _, _, .cons a r, s => .cons a (RDs.append r s)
theorem RDs.get : ∀ {vs : List V} {ds : List D} {i : Nat} {d : D}, RDs K as H vs ds -> ds[i]? = some d -> ∃ v, vs[i]? = some v /\ RD K as H v d
 | _, _, _, _, .nil, e => by simp at e
 | _, _, 0, _, .cons a _, e => by simp at e; subst e; exact ⟨_, rfl, a⟩
 | _, _, i + 1, d, .cons _ r, e => by
  obtain ⟨v, h1, h2⟩ := RDs.get (i := i) (d := d) r (by simpa using e)
  exact ⟨v, by simpa using h1, h2⟩
theorem RDs.set : ∀ {vs : List V} {ds : List D} (i : Nat) {v : V} {d : D}, RD K as H v d -> RDs K as H vs ds -> RDs K as H (vs.set i v) (ds.set i d)
 | _, _, _, _, _, _, .nil => .nil
 | _, _, 0, _, _, r, .cons _ t => .cons r t
 | _, _, i + 1, _, _, r, .cons q t => .cons q (RDs.set i r t)
theorem RDs.take : ∀ {vs : List V} {ds : List D} (n : Nat), RDs K as H vs ds -> RDs K as H (vs.take n) (ds.take n)
 | _, _, 0, _ => .nil
 | _, _, _ + 1, .nil => .nil
 | _, _, n + 1, .cons r t => .cons r (RDs.take n t)
theorem RDs.drop : ∀ {vs : List V} {ds : List D} (n : Nat), RDs K as H vs ds -> RDs K as H (vs.drop n) (ds.drop n)
 | _, _, 0, r => r
 | _, _, _ + 1, .nil => .nil
 | _, _, n + 1, .cons _ t => RDs.drop n t
end
section
variable {as : As} {H : Hp}
theorem TDs.length : ∀ {vs : List V} {ds : List PyData}, TDs as H vs ds -> vs.length = ds.length
 | _, _, .nil => rfl
 | _, _, .cons _ r => congrArg (· + 1) (TDs.length r)
theorem TDs.append : ∀ {vs ws : List V} {ds es : List PyData}, TDs as H vs ds -> TDs as H ws es -> TDs as H (vs ++ ws) (ds ++ es)
 | _, _, _, _, .nil, s => s
 | _, _, _, _, .cons a r, s => .cons a (TDs.append r s)
theorem TDs.get : ∀ {vs : List V} {ds : List PyData} {i : Nat} {d : PyData}, TDs as H vs ds -> ds[i]? = some d -> ∃ v, vs[i]? = some v /\ TD as H v d
 | _, _, _, _, .nil, e => by simp at e
 | _, _, 0, _, .cons a _, e => by simp at e; subst e; exact ⟨_, rfl, a⟩
 | _, _, i + 1, d, .cons _ r, e => by
  obtain ⟨v, h1, h2⟩ := TDs.get (i := i) (d := d) r (by simpa using e)
  exact ⟨v, by simpa using h1, h2⟩
theorem TDs.take : ∀ {vs : List V} {ds : List PyData} (n : Nat), TDs as H vs ds -> TDs as H (vs.take n) (ds.take n)
 | _, _, 0, _ => .nil
 | _, _, _ + 1, .nil => .nil
 | _, _, n + 1, .cons r t => .cons r (TDs.take n t)
theorem TDs.drop : ∀ {vs : List V} {ds : List PyData} (n : Nat), TDs as H vs ds -> TDs as H (vs.drop n) (ds.drop n)
 | _, _, 0, r => r
 | _, _, _ + 1, .nil => .nil
 | _, _, n + 1, .cons _ t => TDs.drop n t
end
theorem TDs.rd {K : PySem.W.Frag} {as : As} {H : Hp} : ∀ {vs : List V} {ds : List PyData}, TDs as H vs ds -> RDs K as H vs (ds.map D.da)
 | _, _, .nil => .nil
 | _, _, .cons a r => .cons (.da a) (TDs.rd r)
def pures : List D -> Option (List PyData)
 | [] => some []
 | .da d :: r => match pures r with
  | some ds => some (d :: ds)
  | none => none
 | _ => none
theorem pures_da : ∀ ds : List PyData, pures (ds.map D.da) = some ds
 | [] => rfl
 | d :: r => by rw [List.map_cons, pures, pures_da r]
theorem pures_eq : ∀ {ds : List D} {xs : List PyData}, pures ds = some xs -> ds = xs.map D.da
 | [], xs, h => by cases h; rfl
 | .da d :: r, xs, h => by
  rw [pures] at h
  cases q : pures r with
  | none => rw [q] at h; cases h
  | some ys => rw [q] at h; cases h; rw [pures_eq q]; rfl
 | .con _ :: _, _, h => by cases h
 | .frz _ :: _, _, h => by cases h
 | .set _ :: _, _, h => by cases h
 | .ref _ :: _, _, h => by cases h
 | .adr _ :: _, _, h => by cases h
 | .ty _ :: _, _, h => by cases h
theorem RDs.td {K : PySem.W.Frag} {as : As} {H : Hp} : ∀ {vs : List V} {ds : List PyData}, RDs K as H vs (ds.map D.da) -> TDs as H vs ds
 | _, [], h => by cases h; exact .nil
 | _, d :: r, h => by
  cases h with
  | cons a b => cases a with | da a => exact .cons a (RDs.td b)
theorem dom_new {H H' : Hp} {p b : Addr} {o : HO} (n : New H p o H') (e : H b ≠ none) : H' b ≠ none := by
 cases q : H b with
 | none => exact absurd q e
 | some u => rw [n.keep q]; simp
theorem step_new {as : As} {H H' : Hp} {p : Addr} {o : HO} (n : New H p o H') : Step as H as H' where
 len := Nat.le_refl _
 old _ _ := .inl rfl
 back _ h := .inl h
 keep _ _ _ e := n.keep e
 dom _ e := dom_new n e
 hk _ h := h
 hh _ _ _ e := n.keep e
theorem get_snoc {α : Type} {l : List α} {x y : α} {i : Nat} (e : (l ++ [x])[i]? = some y) : (i < l.length /\ l[i]? = some y) \/ (i = l.length /\ y = x) := by
 by_cases h : i < l.length
 ·rw [List.getElem?_append_left h] at e; exact .inl ⟨h, e⟩
 ·have h2 : i - l.length = 0 \/ 1 <= i - l.length := by omega
  rw [List.getElem?_append_right (Nat.le_of_not_lt h)] at e
  rcases h2 with z | z
  ·rw [z] at e
   simp at e
   exact .inr ⟨by omega, e.symm⟩
  ·rw [List.getElem?_eq_none_iff.mpr (by simpa using z)] at e
   cases e
theorem has_add {as : As} {p q : Addr} (h : (as.add p).has q) : as.has q \/ q = p := by
 rcases h with h | h
 ·rcases List.mem_append.mp h with z | z
  ·exact .inl (.inl z)
  ·exact .inr (by simpa using z)
 ·exact .inl (.inr h)
theorem step_laid {as : As} {H H' : Hp} {p : Addr} {o : HO} (n : New H p o H') : Step as H (as.add p) H' where
 len := by simp
 old i h := .inl (List.getElem?_append_left h)
 back q h := by
  rcases has_add h with z | z
  ·exact .inl z
  ·subst z; exact .inr n.no
 keep _ _ _ e := n.keep e
 dom _ e := dom_new n e
 hk _ h := h
 hh _ _ _ e := n.keep e
theorem step0_chg {as : As} {H H' : Hp} {p : Addr} {o : HO} (m : as.has p) (c : Chg H p o H') : Step0 as H as H' where
 len := Nat.le_refl _
 old _ _ := .inl rfl
 back _ h := .inl h
 keep b u n e := c.keep (fun z => n (z ▸ m)) e
 dom b e := by
  by_cases z : b = p
  ·subst z; rw [c.at]; simp
  ·cases q : H b with
   | none => exact absurd q e
   | some u => rw [c.keep z q]; simp
theorem step_chg {as : As} {H H' : Hp} {p : Addr} {o : HO} (m : some p ∈ as.ix) (nh : p ∉ as.hd) (c : Chg H p o H') : Step as H as H' := ⟨step0_chg (.inl m) c, fun _ h => h, fun q h u e => c.keep (fun z => nh (z ▸ h)) e⟩
theorem step_own {as as2 : As} {H H1 H2 : Hp} {p : Addr} {o : HO} (st : Step as H as2 H1) (no : H p = none) (nh : p ∉ as.hd) (m : p ∈ as2.hd) (c : Chg H1 p o H2) : Step as H as2 H2 :=
 ⟨⟨st.len, st.old, st.back, fun b u n e => c.keep (ne_of_none e no) (st.keep b u n e), fun b e => (step0_chg (.inr m) c).dom b (st.dom b e)⟩, st.hk, fun q h u e => c.keep (fun z => nh (z ▸ h)) (st.hh q h u e)⟩
theorem cut_ix {as : As} {n i : Nat} {q : Addr} (e : (as.cut n).ix[i]? = some (some q)) : as.ix[i]? = some (some q) := by
 by_cases z : n = i
 ·subst z
  rw [List.getElem?_set] at e
  simp at e
 ·rw [List.getElem?_set_ne z] at e; exact e
theorem step_frz {as : As} {H : Hp} (n : Nat) : Step as H (as.cut n) H where
 len := by simp
 old i h := by
  by_cases z : n = i
  ·subst z; right; simp [h]
  ·left; rw [List.getElem?_set_ne z]
 back p h := by
  rcases h with h | h
  ·obtain ⟨i, hi⟩ := mem_as.mp h
   exact .inl (.inl (mem_as.mpr ⟨i, cut_ix hi⟩))
  ·exact .inl (.inr h)
 keep _ _ _ e := e
 dom _ e := e
 hk _ h := h
 hh _ _ _ e := e
theorem step_hide {as : As} {H H' : Hp} {p : Addr} {o : HO} (n : New H p o H') : Step as H (as.hide p) H' where
 len := Nat.le_refl _
 old _ _ := .inl rfl
 back q h := by
  rcases h with h | h
  ·exact .inl (.inl h)
  ·rcases List.mem_cons.mp h with z | z
   ·subst z; exact .inr n.no
   ·exact .inl (.inr z)
 keep _ _ _ e := n.keep e
 dom _ e := dom_new n e
 hk _ h := List.mem_cons_of_mem _ h
 hh _ _ _ e := n.keep e
theorem has_show {as : As} {p q : Addr} (h : (as.show p).has q) : as.has q := by
 rcases h with h | h
 ·exact .inl h
 ·exact .inr (List.mem_filter.mp h).1
theorem step_show {as : As} {H : Hp} {p : Addr} : Step0 as H (as.show p) H where
 len := Nat.le_refl _
 old _ _ := .inl rfl
 back q h := .inl (has_show h)
 keep _ _ _ e := e
 dom _ e := e
theorem step_take {as : As} {H : Hp} {p : Addr} (m : p ∈ as.hd) : Step0 as H ((as.show p).add p) H where
 len := by simp
 old i h := .inl (List.getElem?_append_left h)
 back q h := by
  rcases has_add h with z | z
  ·exact .inl (has_show z)
  ·subst z; exact .inl (.inr m)
 keep _ _ _ e := e
 dom _ e := e
theorem step_end {as as2 : As} {H H2 : Hp} {p : Addr} (st : Step as H as2 H2) (nh : p ∉ as.hd) (st2 : Step0 as2 H2 (as2.show p) H2) : Step as H (as2.show p) H2 :=
 ⟨st.toStep0.trans st2, fun q h => List.mem_filter.mpr ⟨st.hk q h, by
  have : q ≠ p := fun z => nh (z ▸ h)
  simp [this]⟩, st.hh⟩
theorem step_end2 {as as2 : As} {H H2 : Hp} {p : Addr} (st : Step as H as2 H2) (nh : p ∉ as.hd) (m : p ∈ as2.hd) : Step as H ((as2.show p).add p) H2 :=
 ⟨st.toStep0.trans (step_take m), fun q h => List.mem_filter.mpr ⟨st.hk q h, by
  have : q ≠ p := fun z => nh (z ▸ h)
  simp [this]⟩, st.hh⟩
section
variable {K : PySem.W.Frag} {as as' : As} {H H' : Hp} {s : S} {p : Addr}
theorem RO.mono0 (st : Step0 as H as' H') {o : O} (e : H' p = H p) (h : RO K as H p o) : RO K as' H' p o := by
 cases o with
 | lst ds =>
  obtain ⟨xs, e1, r⟩ := h
  exact ⟨xs, e.trans e1, r.mono0 st⟩
 | dct kvs =>
  rcases h with ⟨l, e1, r⟩ | ⟨l, e0, e1, r⟩
  ·exact .inl ⟨l, e.trans e1, r.mono0 st⟩
  ·exact .inr ⟨l, e0, e.trans e1, r.mono0 st⟩
 | _ => exact h.elim
theorem RO.some {o : O} (h : RO K as H p o) : H p ≠ none := by
 cases o with
 | lst ds =>
  obtain ⟨xs, e1, r⟩ := h
  rw [e1]; simp
 | dct kvs =>
  rcases h with ⟨l, e1, r⟩ | ⟨l, e0, e1, r⟩ <;> (rw [e1]; simp)
 | _ => exact h.elim
theorem Rel.at (r : Rel K as H s) {n : Nat} (e : as.ix[n]? = some (some p)) : H p ≠ none := by
 have hl : n < s.length := by
  rw [← r.len]
  exact (List.getElem?_eq_some_iff.mp e).1
 exact (r.ob n p _ e (List.getElem?_eq_getElem hl)).some
theorem Rel.has (r : Rel K as H s) (h : as.has p) : H p ≠ none := by
 rcases h with h | h
 ·obtain ⟨i, hi⟩ := mem_as.mp h
  exact r.at hi
 ·obtain ⟨xs, e⟩ := r.hs p h
  rw [e]; simp
theorem same_of {H H' : Hp} {q : Addr} (k : ∀ o, H q = some o -> H' q = some o) (h : H q ≠ none) : H' q = H q := by
 cases z : H q with
 | none => exact absurd z h
 | some x => rw [k x z]
theorem Rel.new {o : HO} (r : Rel K as H s) (n : New H p o H') : Rel K as H' s where
 len := r.len
 nd := r.nd
 ob i q u e1 e2 := (r.ob i q u e1 e2).mono0 (step_new n).toStep0 (same_of (fun _ => n.keep) (r.at e1))
 li := r.li
 hs q h := let ⟨xs, e⟩ := r.hs q h; ⟨xs, n.keep e⟩
 hx := r.hx
theorem Rel.laid {o : HO} {u : O} (r : Rel K as H s) (n : New H p o H') (h : RO K (as.add p) H' p u) : Rel K (as.add p) H' (s ++ [u]) where
 len := by simp [r.len]
 nd i j q e1 e2 := by
  rcases get_snoc e1 with ⟨l1, z1⟩ | ⟨l1, z1⟩ <;> rcases get_snoc e2 with ⟨l2, z2⟩ | ⟨l2, z2⟩
  ·exact r.nd i j q z1 z2
  ·cases z2; exact absurd n.no (r.at z1)
  ·cases z1; exact absurd n.no (r.at z2)
  ·rw [l1, l2]
 ob i q x e1 e2 := by
  rcases get_snoc e1 with ⟨l1, z1⟩ | ⟨l1, z1⟩ <;> rcases get_snoc e2 with ⟨l2, z2⟩ | ⟨l2, z2⟩
  ·exact (r.ob i q x z1 z2).mono0 (step_laid n).toStep0 (same_of (fun _ => n.keep) (r.at z1))
  ·rw [l2, ← r.len] at l1; exact absurd l1 (Nat.lt_irrefl _)
  ·rw [l1, r.len] at l2; exact absurd l2 (Nat.lt_irrefl _)
  ·cases z1; subst z2; exact h
 li i x e g := by
  rcases get_snoc e with ⟨l1, z1⟩ | ⟨l1, z1⟩
  ·obtain ⟨q, hq⟩ := r.li i x z1 g
   exact ⟨q, by rw [List.getElem?_append_left (by rw [r.len]; exact l1)]; exact hq⟩
  ·exact ⟨p, by rw [l1, ← r.len]; simp⟩
 hs q h := let ⟨xs, e⟩ := r.hs q h; ⟨xs, n.keep e⟩
 hx q h m := by
  rcases List.mem_append.mp m with z | z
  ·exact r.hx q h z
  ·have : q = p := by simpa using z
   subst this
   obtain ⟨xs, e⟩ := r.hs q h
   rw [n.no] at e; cases e
theorem Rel.chg {o : HO} {u : O} {n : Nat} (r : Rel K as H s) (e : as.ix[n]? = some (some p)) (c : Chg H p o H') (h : RO K as H' p u) : Rel K as H' (s.set n u) where
 len := by simp [r.len]
 nd := r.nd
 ob i q x e1 e2 := by
  by_cases z : n = i
  ·subst z
   rw [e] at e1; cases e1
   have hl : n < s.length := by rw [← r.len]; exact (List.getElem?_eq_some_iff.mp e).1
   rw [List.getElem?_set_self hl] at e2
   cases e2; exact h
  ·rw [List.getElem?_set_ne z] at e2
   have ne : q ≠ p := fun w => z (r.nd n i p e (w ▸ e1))
   exact (r.ob i q x e1 e2).mono0 (step0_chg (.inl (mem_as.mpr ⟨n, e⟩)) c) (same_of (fun _ => c.keep ne) (r.at e1))
 li i x e2 g := by
  by_cases z : n = i
  ·subst z; exact ⟨p, e⟩
  ·rw [List.getElem?_set_ne z] at e2
   exact r.li i x e2 g
 hs q h := let ⟨xs, e'⟩ := r.hs q h; ⟨xs, c.keep (fun z => r.hx q h (mem_as.mpr ⟨n, z ▸ e⟩)) e'⟩
 hx := r.hx
theorem Rel.chgH {ys : List V} (r : Rel K as H s) (m : p ∈ as.hd) (c : Chg H p (.lst ys) H') : Rel K as H' s where
 len := r.len
 nd := r.nd
 ob i q x e1 e2 := by
  have ne : q ≠ p := fun w => r.hx p m (mem_as.mpr ⟨i, w ▸ e1⟩)
  exact (r.ob i q x e1 e2).mono0 (step0_chg (.inr m) c) (same_of (fun _ => c.keep ne) (r.at e1))
 li := r.li
 hs q h := by
  by_cases z : q = p
  ·subst z; exact ⟨ys, c.at⟩
  ·obtain ⟨xs, e⟩ := r.hs q h
   exact ⟨xs, c.keep z e⟩
 hx := r.hx
theorem Rel.hide {ys : List V} (r : Rel K as H s) (n : New H p (.lst ys) H') : Rel K (as.hide p) H' s where
 len := r.len
 nd := r.nd
 ob i q u e1 e2 := (r.ob i q u e1 e2).mono0 (step_hide n).toStep0 (same_of (fun _ => n.keep) (r.at e1))
 li := r.li
 hs q h := by
  rcases List.mem_cons.mp h with z | z
  ·subst z; exact ⟨ys, n.at⟩
  ·obtain ⟨xs, e⟩ := r.hs q z
   exact ⟨xs, n.keep e⟩
 hx q h m := by
  rcases List.mem_cons.mp h with z | z
  ·subst z
   obtain ⟨i, hi⟩ := mem_as.mp m
   exact r.at hi n.no
  ·exact r.hx q z m
theorem Rel.show (r : Rel K as H s) : Rel K (as.show p) H s where
 len := r.len
 nd := r.nd
 ob i q u e1 e2 := (r.ob i q u e1 e2).mono0 step_show rfl
 li := r.li
 hs q h := r.hs q (List.mem_filter.mp h).1
 hx q h := r.hx q (List.mem_filter.mp h).1
theorem Rel.take {u : O} (r : Rel K as H s) (m : p ∈ as.hd) (h : RO K ((as.show p).add p) H p u) : Rel K ((as.show p).add p) H (s ++ [u]) where
 len := by simp [r.len]
 nd i j q e1 e2 := by
  rcases get_snoc e1 with ⟨l1, z1⟩ | ⟨l1, z1⟩ <;> rcases get_snoc e2 with ⟨l2, z2⟩ | ⟨l2, z2⟩
  ·exact r.nd i j q z1 z2
  ·cases z2; exact absurd (mem_as.mpr ⟨i, z1⟩) (r.hx p m)
  ·cases z1; exact absurd (mem_as.mpr ⟨j, z2⟩) (r.hx p m)
  ·rw [l1, l2]
 ob i q x e1 e2 := by
  rcases get_snoc e1 with ⟨l1, z1⟩ | ⟨l1, z1⟩ <;> rcases get_snoc e2 with ⟨l2, z2⟩ | ⟨l2, z2⟩
  ·exact (r.ob i q x z1 z2).mono0 (step_take m) rfl
  ·rw [l2, ← r.len] at l1; exact absurd l1 (Nat.lt_irrefl _)
  ·rw [l1] at l2
   have : as.ix.length < s.length := l2
   rw [r.len] at this; exact absurd this (Nat.lt_irrefl _)
  ·cases z1; subst z2; exact h
 li i x e g := by
  rcases get_snoc e with ⟨l1, z1⟩ | ⟨l1, z1⟩
  ·obtain ⟨q, hq⟩ := r.li i x z1 g
   exact ⟨q, by rw [List.getElem?_append_left (by rw [r.len]; exact l1)]; exact hq⟩
  ·exact ⟨p, by rw [l1, ← r.len]; simp⟩
 hs q h := r.hs q (List.mem_filter.mp h).1
 hx q h m2 := by
  obtain ⟨h1, h2⟩ := List.mem_filter.mp h
  rcases List.mem_append.mp m2 with z | z
  ·exact r.hx q h1 z
  ·have : q = p := by simpa using z
   exact absurd this (of_decide_eq_true h2)
theorem Rel.frz {n : Nat} (r : Rel K as H s) : Rel K (as.cut n) H (s.set n .gone) where
 len := by simp [r.len]
 nd i j q e1 e2 := by
  exact r.nd i j q (cut_ix e1) (cut_ix e2)
 ob i q x e1 e2 := by
  by_cases z : n = i
  ·subst z
   rw [List.getElem?_set] at e1
   simp at e1
  ·rw [List.getElem?_set_ne z] at e1 e2
   exact (r.ob i q x e1 e2).mono0 (step_frz n).toStep0 rfl
 li i x e2 g := by
  by_cases z : n = i
  ·subst z
   rw [List.getElem?_set] at e2
   simp at e2
   exact absurd e2.2.symm g
  ·rw [List.getElem?_set_ne z] at e2 ⊢
   exact r.li i x e2 g
 hs := r.hs
 hx q h m := by
  obtain ⟨i, hi⟩ := mem_as.mp m
  by_cases z : n = i
  ·subst z
   rw [List.getElem?_set] at hi
   simp at hi
  ·rw [List.getElem?_set_ne z] at hi
   exact r.hx q h (mem_as.mpr ⟨i, hi⟩)
end
end PF
namespace PF
open PySem PySem.Spec
open L2
abbrev En := List (Option D)
structure Envs (K : PySem.W.Frag) (as : As) (H : Hp) (ρ : En) (σ : St) : Prop where
 len : ρ.length = σ.length
 get : ∀ (i : Nat) (d : D), ρ[i]? = some (some d) -> ∃ v, σ[i]? = some (some v) /\ RD K as H v d
theorem Envs.mono {K : PySem.W.Frag} {as as' : As} {H H' : Hp} {ρ : En} {σ : St} (e : Envs K as H ρ σ) (st : Step as H as' H') : Envs K as' H' ρ σ := ⟨e.len, fun i d h => let ⟨v, a, b⟩ := e.get i d h; ⟨v, a, b.mono st⟩⟩
theorem Envs.set {K : PySem.W.Frag} {as : As} {H : Hp} {ρ : En} {σ : St} (e : Envs K as H ρ σ) (i : Nat) {v : V} {d : D} (r : RD K as H v d) : Envs K as H (ρ.set i (some d)) (σ.set i (some v)) := by
 refine ⟨by simp [e.len], fun j x h => ?_⟩
 by_cases z : i = j
 ·subst z
  rw [List.getElem?_set] at h ⊢
  by_cases hl : i < ρ.length
  ·simp [hl] at h
   subst h
   exact ⟨v, by simp [← e.len, hl], r⟩
  ·simp [hl] at h
 ·rw [List.getElem?_set_ne z] at h ⊢
  exact e.get j x h
def Dn {α β : Type} (K : PySem.W.Frag) (rel : As -> Hp -> β -> α -> Prop) (as : As) (H : Hp) (r : R α) (Q : β -> Hp -> Prop) : Prop := match r with
 | .ok a s => ∀ b as' H', Step as H as' H' -> Rel K as' H' s -> rel as' H' b a -> Q b H'
 | .bad => False
theorem Dn.step {α β : Type} {K : PySem.W.Frag} {rel : As -> Hp -> β -> α -> Prop} {as as1 : As} {H H1 : Hp} {r : R α} {Q : β -> Hp -> Prop} (h : Dn K rel as H r Q) (st : Step as H as1 H1) : Dn K rel as1 H1 r Q := by
 cases r with
 | ok a s => exact fun b as' H' s2 rl rb => h b as' H' (st.trans s2) rl rb
 | bad => exact h
theorem Dn.bind {α β γ δ : Type} {K : PySem.W.Frag} {r1 : As -> Hp -> β -> α -> Prop} {r2 : As -> Hp -> δ -> γ -> Prop} {as : As} {H : Hp} {r : R α} {f : α -> S -> R γ} {Q : δ -> Hp -> Prop} {Q' : β -> Hp -> Prop} (h : Dn K r2 as H (r.bind f) Q)
  (k : ∀ a s as1 H1 b, Step as H as1 H1 -> Rel K as1 H1 s -> r1 as1 H1 b a -> Dn K r2 as1 H1 (f a s) Q -> Q' b H1) : Dn K r1 as H r Q' := by
 cases r with
 | ok a s => exact fun b as' H' st rl rb => k a s as' H' b st rl rb (Dn.step (r := f a s) h st)
 | bad => exact h
theorem Dn.now {α β : Type} {K : PySem.W.Frag} {rel : As -> Hp -> β -> α -> Prop} {as : As} {H : Hp} {a : α} {s : S} {Q : β -> Hp -> Prop} {b : β} (h : Dn K rel as H (.ok a s) Q) (rl : Rel K as H s) (rb : rel as H b a) : Q b H := h b as H (Step.refl _ _) rl rb
abbrev rD (K : PySem.W.Frag) : As -> Hp -> V -> D -> Prop := fun as H v d => RD K as H v d
abbrev rB : As -> Hp -> Bool -> Bool -> Prop := fun _ _ b a => b = a
abbrev rL (K : PySem.W.Frag) : As -> Hp -> List V -> List D -> Prop := fun as H v d => RDs K as H v d
inductive Fl where
 | nx (ρ : En) | rt (d : D) | bk (ρ : En) | ct (ρ : En)
inductive FV where
 | nx (σ : St) | rt (v : V) | bk (σ : St) | ct (σ : St)
inductive rF (K : PySem.W.Frag) (as : As) (H : Hp) : FV -> Fl -> Prop
 | nx {σ : St} {ρ : En} : Envs K as H ρ σ -> rF K as H (.nx σ) (.nx ρ)
 | rt {v : V} {d : D} : RD K as H v d -> rF K as H (.rt v) (.rt d)
 | bk {σ : St} {ρ : En} : Envs K as H ρ σ -> rF K as H (.bk σ) (.bk ρ)
 | ct {σ : St} {ρ : En} : Envs K as H ρ σ -> rF K as H (.ct σ) (.ct ρ)
def endF (D : Ends) (f : FV) (H : Hp) : Prop := match f with
 | .nx σ => D.nx σ H
 | .rt v => D.rt v H
 | .bk σ => D.bk σ H
 | .ct σ => D.ct σ H
abbrev FE := En -> S -> R D
abbrev FT := En -> S -> R Bool
abbrev FA := En -> S -> R (List D)
abbrev FS := En -> S -> R Fl
def RefE (K : PySem.W.Frag) (t : TE) (f : FE) : Prop := ∀ as σ H ρ s Q, Rel K as H s -> Envs K as H ρ σ -> Dn K (rD K) as H (f ρ s) Q -> t σ H Q
def RefT (K : PySem.W.Frag) (t : TT) (f : FT) : Prop := ∀ as σ H ρ s Q, Rel K as H s -> Envs K as H ρ σ -> Dn K rB as H (f ρ s) Q -> t σ H Q
def RefA (K : PySem.W.Frag) (t : TA) (f : FA) : Prop := ∀ as σ H ρ s Q, Rel K as H s -> Envs K as H ρ σ -> Dn K (rL K) as H (f ρ s) Q -> t σ H Q
def RefS (K : PySem.W.Frag) (t : TS) (f : FS) : Prop := ∀ as σ H ρ s D, Rel K as H s -> Envs K as H ρ σ -> Dn K (rF K) as H (f ρ s) (endF D) -> t D σ H
structure RE (X : Cx) (e : Expr) (f : FE) : Prop where
 ex : ∃ t, PE X e t /\ RefE X.K t f
structure RT (X : Cx) (e : Expr) (f : FT) : Prop where
 ex : ∃ t, PT X e t /\ RefT X.K t f
structure RW (X : Cx) (e : Expr) (f : FT) : Prop where
 ex : ∃ t, PW X e t /\ RefT X.K t f
structure RA (X : Cx) (es : List Expr) (f : FA) : Prop where
 ex : ∃ t, PA X es t /\ RefA X.K t f
structure RS (X : Cx) (st : Stmt) (f : FS) : Prop where
 ex : ∃ t, PS X st t /\ RefS X.K t f
structure RSs (X : Cx) (st : List Stmt) (f : FS) : Prop where
 ex : ∃ t, PSs X st t /\ RefS X.K t f
section
variable {X : Cx} {a b : Expr} {fa fb : FE} {pos : Pos}
def fVar (i : Nat) : FE := fun ρ s => match ρ[i]? with
 | some (some d) => .ok d s
 | _ => .bad
def fC (d : D) : FE := fun _ s => .ok d s
theorem ref_var {K : PySem.W.Frag} (i : Nat) : RefE K (tVar i) (fVar i) := by
 intro as σ H ρ s Q rl en h
 unfold fVar at h
 cases q : ρ[i]? with
 | none => rw [q] at h; exact h.elim
 | some o =>
  cases o with
  | none => rw [q] at h; exact h.elim
  | some d =>
   rw [q] at h
   obtain ⟨v, e, r⟩ := en.get i d q
   exact ⟨v, e, Dn.now h rl r⟩
theorem re_var (i : Nat) {x : Str} {pos : Pos} (hN : X.N[i]? = some x := by rfl) (hv : Vis X.env.scope x := by first | exact Or.inl rfl | exact Or.inr (Or.inl rfl) | exact Or.inr (Or.inr rfl)) (hd : (x == ("__debug__" : Str)) = false := by decide)
  (hcd : (x == ("__classdict__" : Str)) = false := by decide) : RE X (.Name x pos) (fVar i) := ⟨_, pe_var hN hv hd hcd, ref_var i⟩
theorem ref_c {K : PySem.W.Frag} {v : V} {d : D} (r : ∀ as H, RD K as H v d) : RefE K (tC v) (fC d) := fun as σ H ρ s Q rl en h => Dn.now (K := K) (rel := rD K) h rl (r as H)
theorem re_int {i j pos} : RE X (.Constant (.int i) j pos) (fC (.int i)) := ⟨_, pe_int, ref_c fun _ _ => .da (.int i)⟩
theorem re_str {x j pos} : RE X (.Constant (.str x) j pos) (fC (.str x)) := ⟨_, pe_str, ref_c fun _ _ => .da (.str x)⟩
theorem re_bl {b j pos} : RE X (.Constant (.bool b) j pos) (fC (.bl b)) := ⟨_, pe_bl, ref_c fun _ _ => .da (.bl b)⟩
theorem re_non {j pos} : RE X (.Constant .none j pos) (fC .non) := ⟨_, pe_non, ref_c fun _ _ => .da .non⟩
theorem re_bltn {x : Str} {n : String} {pos : Pos} (hm : X.mg x = none) (hv : bootBuiltins x = some (.type n)) (hg : Gl X x := by rfl) (hn : x ≠ "__name__" := by decide) (hd : (x == ("__debug__" : Str)) = false := by decide) : RE X (.Name x pos) (fC (.ty n)) :=
 ⟨_, pe_bltn (v := .ty n) hg hm hv rfl hn hd, ref_c fun _ _ => .ty n⟩
def fOp (g : D -> D -> S -> R D) (fa fb : FE) : FE := fun ρ s => (fa ρ s).bind fun x s1 => (fb ρ s1).bind fun y s2 => g x y s2
def Ref2 (K : PySem.W.Frag) (r : R2) (g : D -> D -> S -> R D) : Prop := ∀ as H s x y dx dy Q, Rel K as H s -> RD K as H x dx -> RD K as H y dy -> Dn K (rD K) as H (g dx dy s) Q -> r x y H Q
theorem ref_op {K : PySem.W.Frag} {r : R2} {g : D -> D -> S -> R D} {ta tb : TE} (hr : Ref2 K r g) (ha : RefE K ta fa) (hb : RefE K tb fb) : RefE K (tOp r ta tb) (fOp g fa fb) := by
 intro as σ H ρ s Q rl en h
 refine ha as σ H ρ s _ rl en (Dn.bind h fun d1 s1 as1 H1 x st1 rl1 r1 h1 => ?_)
 refine hb as1 σ H1 ρ s1 _ rl1 (en.mono st1) (Dn.bind h1 fun d2 s2 as2 H2 y st2 rl2 r2 h2 => ?_)
 exact hr as2 H2 s2 x y d1 d2 Q rl2 (r1.mono st2) r2 h2
structure Op2 (X : Cx) (f : Value -> Value -> Sem Value) (g : D -> D -> S -> R D) : Prop where
 ex : ∃ r, OpR X f r /\ Ref2 X.K r g
theorem re_op {op : Operator} {g : D -> D -> S -> R D} (o : Op2 X (binaryOp op) g) (ha : RE X a fa) (hb : RE X b fb) : RE X (.BinOp a op b pos) (fOp g fa fb) := by
 obtain ⟨r, ho, hr⟩ := o.ex
 obtain ⟨ta, pa, ra⟩ := ha.ex
 obtain ⟨tb, pb, rb⟩ := hb.ex
 exact ⟨_, pe_op ho pa pb, ref_op hr ra rb⟩
def fTest (f : FE) : FT := fun ρ s => (f ρ s).bind fun d s1 => match d with
 | .bl k => .ok k s1
 | _ => .bad
theorem ref_test {K : PySem.W.Frag} {t : TE} {f : FE} (h : RefE K t f) : RefT K (tTest t) (fTest f) := by
 intro as σ H ρ s Q rl en q
 refine h as σ H ρ s _ rl en (Dn.bind q fun d1 s1 as1 H1 x st1 rl1 r1 h1 => ?_)
 cases r1 with
 | da t =>
  cases t with
  | bl k => exact ⟨k, rfl, Dn.now h1 rl1 rfl⟩
  | _ => exact h1.elim
 | _ => exact h1.elim
theorem rt_cmp {op : CmpOp} {g : D -> D -> S -> R D} (o : Op2 X (compareOp op) g) (ha : RE X a fa) (hb : RE X b fb) (hm : behindInMarks op b = false := by first | exact nomark _ | with_unfolding_all rfl) : RT X (.Compare a [op] [b] pos) (fTest (fOp g fa fb)) := by
 obtain ⟨r, ho, hr⟩ := o.ex
 obtain ⟨ta, pa, ra⟩ := ha.ex
 obtain ⟨tb, pb, rb⟩ := hb.ex
 exact ⟨_, pt_cmpR ho pa pb hm, ref_test (ref_op hr ra rb)⟩
def fAndT (f g : FT) : FT := fun ρ s => (f ρ s).bind fun c s1 => if c = true then g ρ s1 else .ok false s1
def fOrT (f g : FT) : FT := fun ρ s => (f ρ s).bind fun c s1 => if c = true then .ok true s1 else g ρ s1
def fNotT (f : FT) : FT := fun ρ s => (f ρ s).bind fun c s1 => .ok (!c) s1
theorem ref_and {K : PySem.W.Frag} {t u : TT} {f g : FT} (h1 : RefT K t f) (h2 : RefT K u g) : RefT K (tAnd t u) (fAndT f g) := by
 intro as σ H ρ s Q rl en h
 refine h1 as σ H ρ s _ rl en (Dn.bind h fun c s1 as1 H1 b st1 rl1 r1 q1 => ?_)
 have e1 : b = c := r1
 subst e1
 cases b with
 | true => rw [if_pos rfl] at q1 ⊢; exact h2 as1 σ H1 ρ s1 Q rl1 (en.mono st1) q1
 | false => rw [if_neg Bool.false_ne_true] at q1 ⊢; exact Dn.now q1 rl1 rfl
theorem ref_or {K : PySem.W.Frag} {t u : TT} {f g : FT} (h1 : RefT K t f) (h2 : RefT K u g) : RefT K (tOr t u) (fOrT f g) := by
 intro as σ H ρ s Q rl en h
 refine h1 as σ H ρ s _ rl en (Dn.bind h fun c s1 as1 H1 b st1 rl1 r1 q1 => ?_)
 have e1 : b = c := r1
 subst e1
 cases b with
 | false => rw [if_neg Bool.false_ne_true] at q1 ⊢; exact h2 as1 σ H1 ρ s1 Q rl1 (en.mono st1) q1
 | true => rw [if_pos rfl] at q1 ⊢; exact Dn.now q1 rl1 rfl
theorem ref_not {K : PySem.W.Frag} {t : TT} {f : FT} (h1 : RefT K t f) : RefT K (tNot t) (fNotT f) := by
 intro as σ H ρ s Q rl en h
 refine h1 as σ H ρ s _ rl en (Dn.bind h fun c s1 as1 H1 b st1 rl1 r1 q1 => ?_)
 have e1 : b = c := r1
 subst e1
 exact Dn.now q1 rl1 rfl
theorem RW.rt {e : Expr} {f : FT} (h : RW X e f) : RT X e f := let ⟨t, p, r⟩ := h.ex; ⟨t, p.pt, r⟩
theorem rw_and1 {f : FT} (h : RT X a f) : RW X (.BoolOp .And [a] pos) f := let ⟨t, p, r⟩ := h.ex; ⟨t, pw_and1 p, r⟩
theorem rw_or1 {f : FT} (h : RT X a f) : RW X (.BoolOp .Or [a] pos) f := let ⟨t, p, r⟩ := h.ex; ⟨t, pw_or1 p, r⟩
theorem rw_and {f g : FT} {rest : List Expr} (h : RT X a f) (k : RW X (.BoolOp .And (b :: rest) pos) g) : RW X (.BoolOp .And (a :: b :: rest) pos) (fAndT f g) := let ⟨t, p, r⟩ := h.ex; let ⟨t', p', r'⟩ := k.ex; ⟨_, pw_and p p', ref_and r r'⟩
theorem rw_or {f g : FT} {rest : List Expr} (h : RT X a f) (k : RW X (.BoolOp .Or (b :: rest) pos) g) : RW X (.BoolOp .Or (a :: b :: rest) pos) (fOrT f g) := let ⟨t, p, r⟩ := h.ex; let ⟨t', p', r'⟩ := k.ex; ⟨_, pw_or p p', ref_or r r'⟩
theorem rt_not {f : FT} (h : RT X a f) : RT X (.UnaryOp .Not a pos) (fNotT f) := let ⟨t, p, r⟩ := h.ex; ⟨_, pt_not p, ref_not r⟩
def fIf (c : FT) (fa fb : FE) : FE := fun ρ s => (c ρ s).bind fun k s1 => if k = true then fa ρ s1 else fb ρ s1
theorem re_if {c : Expr} {fc : FT} (hc : RT X c fc) (ha : RE X a fa) (hb : RE X b fb) : RE X (.IfExp c a b pos) (fIf fc fa fb) := by
 obtain ⟨tc, pc, rc⟩ := hc.ex
 obtain ⟨ta, pa, ra⟩ := ha.ex
 obtain ⟨tb, pb, rb⟩ := hb.ex
 refine ⟨_, pe_ifExp pc pa pb, fun as σ H ρ s Q rl en h => ?_⟩
 refine rc as σ H ρ s _ rl en (Dn.bind h fun d1 s1 as1 H1 x st1 rl1 r1 h1 => ?_)
 have e1 : x = d1 := r1
 subst e1
 cases x with
 | true => rw [if_pos rfl] at h1 ⊢; exact ra as1 σ H1 ρ s1 Q rl1 (en.mono st1) h1
 | false => rw [if_neg Bool.false_ne_true] at h1 ⊢; exact rb as1 σ H1 ρ s1 Q rl1 (en.mono st1) h1
def fNil : FA := fun _ s => .ok [] s
def fCons (f : FE) (g : FA) : FA := fun ρ s => (f ρ s).bind fun x s1 => (g ρ s1).bind fun xs s2 => .ok (x :: xs) s2
def fVs (ds : List D) : FA := fun _ s => .ok ds s
theorem ra_nil : RA X [] fNil := ⟨_, pa_nil, fun as σ H ρ s Q rl en h => Dn.now h rl .nil⟩
theorem ra_cons {e : Expr} {es : List Expr} {f : FE} {g : FA} (h : RE X e f) (k : RA X es g) (hs : starEach (e :: es) X.env = (false, eval e X.env) :: starEach es X.env := by rfl) : RA X (e :: es) (fCons f g) := by
 obtain ⟨t, p, r⟩ := h.ex
 obtain ⟨t', p', r'⟩ := k.ex
 refine ⟨_, pa_cons p p' hs, fun as σ H ρ s Q rl en h => ?_⟩
 refine r as σ H ρ s _ rl en (Dn.bind h fun d1 s1 as1 H1 x st1 rl1 r1 h1 => ?_)
 refine r' as1 σ H1 ρ s1 _ rl1 (en.mono st1) (Dn.bind h1 fun d2 s2 as2 H2 xs st2 rl2 r2 h2 => ?_)
 exact Dn.now h2 rl2 (.cons (r1.mono st2) r2)
def conD : Const -> Option PyData
 | .str x => some (.str x)
 | .int i => some (.int i)
 | .bool b => some (.bool b)
 | .none => some .none
 | _ => none
def consD : List Expr -> Option (List PyData)
 | [] => some []
 | .Constant c _ _ :: r => match conD c with
  | some v => match consD r with
   | some vs => some (v :: vs)
   | none => none
  | none => none
 | _ => none
def pV : PyData -> V
 | .none => .non
 | .bool b => .bl b
 | .int i => .int i
 | .str x => .str x
 | _ => .non
theorem conD_V {c : Const} {d : PyData} (h : conD c = some d) : conV c = some (pV d) /\ ∀ as H, TD as H (pV d) d := by
 cases c <;> simp [conD] at h <;> subst h
 all_goals first
  | exact ⟨rfl, fun _ _ => .str _⟩
  | exact ⟨rfl, fun _ _ => .int _⟩
  | exact ⟨rfl, fun _ _ => .bl _⟩
  | exact ⟨rfl, fun _ _ => .non⟩
theorem consD_V : ∀ {es : List Expr} {ds : List PyData}, consD es = some ds -> conOf es = some (ds.map pV) /\ ∀ as H, TDs as H (ds.map pV) ds
 | [], ds, h => by cases h; exact ⟨rfl, fun _ _ => .nil⟩
 | e :: es, ds, h => by
  cases e with
  | Constant c j pos =>
   simp only [consD] at h
   cases h1 : conD c with
   | none => (rw [h1] at h; cases h)
   | some v =>
    rw [h1] at h
    cases h2 : consD es with
    | none => rw [h2] at h; cases h
    | some ws =>
     rw [h2] at h
     cases h
     obtain ⟨a1, a2⟩ := conD_V h1
     obtain ⟨b1, b2⟩ := consD_V h2
     exact ⟨by simp only [conOf, a1, b1, List.map_cons], fun as H => .cons (a2 as H) (b2 as H)⟩
  | _ => simp [consD] at h
theorem ra_consts {es : List Expr} {ds : List PyData} (h : consD es = some ds) : RA X es (fVs (ds.map D.da)) := by
 obtain ⟨a, b⟩ := consD_V h
 exact ⟨_, pa_consts a, fun as σ H ρ s Q rl en h => Dn.now h rl (b as H).rd⟩
def newL (m : Bool) (ds : List D) (s : S) : R D := if m = true then .ok (.ref s.length) (s ++ [.lst ds]) else match pures ds with
 | some xs => .ok (.lst xs) s
 | none => .bad
def newT (ds : List D) (s : S) : R D := match pures ds with
 | some xs => .ok (.tup xs) s
 | none => .bad
theorem newL_ok {K : PySem.W.Frag} {as : As} {H H' : Hp} {s : S} {m : Bool} {ds : List D} {xs : List V} {Q : VK} {p : Addr} (h : Dn K (rD K) as H (newL m ds s) Q) (rl : Rel K as H s) (r : RDs K as H xs ds) (n : New H p (.lst xs) H') : Q (.ref p) H' := by
 unfold newL at h
 cases m with
 | true =>
  rw [if_pos rfl] at h
  refine h (.ref p) (as.add p) H' (step_laid n) (rl.laid n ⟨xs, n.at, r.mono (step_laid n)⟩) (.ref (by simp [rl.len]) fun q e => ?_)
  rw [← rl.len] at e
  simp at e
  exact e.symm
 | false =>
  rw [if_neg Bool.false_ne_true] at h
  cases q : pures ds with
  | none => rw [q] at h; exact h.elim
  | some ys =>
   rw [q] at h
   have e := pures_eq q
   subst e
   exact h (.ref p) as H' (step_new n) (rl.new n) (.da (.lst (fun z => rl.has z n.no) n.at (r.td.mono (step_new n))))
theorem newT_ok {K : PySem.W.Frag} {as : As} {H H' : Hp} {s : S} {ds : List D} {xs : List V} {Q : VK} {p : Addr} (h : Dn K (rD K) as H (newT ds s) Q) (rl : Rel K as H s) (r : RDs K as H xs ds) (n : New H p (.tup xs) H') : Q (.ref p) H' := by
 unfold newT at h
 cases q : pures ds with
 | none => rw [q] at h; exact h.elim
 | some ys =>
  rw [q] at h
  have e := pures_eq q
  subst e
  exact h (.ref p) as H' (step_new n) (rl.new n) (.da (.tup (fun z => rl.has z n.no) n.at (r.td.mono (step_new n))))
def fLst (m : Bool) (f : FA) : FE := fun ρ s => (f ρ s).bind fun ds s1 => if ds.length <= sizeLine then newL m ds s1 else .bad
def fTup (f : FA) : FE := fun ρ s => (f ρ s).bind fun ds s1 => if ds.length <= sizeLine then newT ds s1 else .bad
theorem re_lst {es : List Expr} {f : FA} (m : Bool) (h : RA X es f) : RE X (.List es pos) (fLst m f) := by
 obtain ⟨t, p, r⟩ := h.ex
 refine ⟨_, pe_lstN p, fun as σ H ρ s Q rl en h => ?_⟩
 refine r as σ H ρ s _ rl en (Dn.bind h fun ds s1 as1 H1 xs st1 rl1 r1 h1 => ?_)
 split at h1
 ·rename_i hz
  exact ⟨by rw [r1.length]; exact hz, fun p H' n => newL_ok h1 rl1 r1 n⟩
 ·exact h1.elim
theorem re_tup {es : List Expr} {f : FA} {x1 : Nat} (h : RA X es f) : RE X (.Tuple es x1 pos) (fTup f) := by
 obtain ⟨t, p, r⟩ := h.ex
 refine ⟨_, pe_tupN p, fun as σ H ρ s Q rl en h => ?_⟩
 refine r as σ H ρ s _ rl en (Dn.bind h fun ds s1 as1 H1 xs st1 rl1 r1 h1 => ?_)
 split at h1
 ·rename_i hz
  exact ⟨by rw [r1.length]; exact hz, fun p H' n => newT_ok h1 rl1 r1 n⟩
 ·exact h1.elim
end
end PF
namespace PF
open PySem PySem.Spec
open L2
def tOf (K : PySem.W.Frag) (f : FE) : TE := fun σ H Q => ∃ as ρ s, Rel K as H s /\ Envs K as H ρ σ /\ Dn K (rD K) as H (f ρ s) Q
def tOfT (K : PySem.W.Frag) (f : FT) : TT := fun σ H Q => ∃ as ρ s, Rel K as H s /\ Envs K as H ρ σ /\ Dn K rB as H (f ρ s) Q
theorem RE.pe {X : Cx} {e : Expr} {f : FE} (h : RE X e f) : PE X e (tOf X.K f) := by
 obtain ⟨t, p, r⟩ := h.ex
 exact p.weak fun σ H Q ⟨as, ρ, s, a, b, c⟩ => r as σ H ρ s Q a b c
theorem RT.pt {X : Cx} {e : Expr} {f : FT} (h : RT X e f) : PT X e (tOfT X.K f) := by
 obtain ⟨t, p, r⟩ := h.ex
 exact ⟨fun pins s σ H Q I ⟨as, ρ, s', a, b, c⟩ => p pins s σ H Q I (r as σ H ρ s' Q a b c)⟩
inductive Tg where
 | nm (i : Nat) | t2 (a b : Tg) | t3 (a b c : Tg)
def gOf (K : PySem.W.Frag) : Tg -> TG
 | .nm i => gName i
 | .t2 a b => gTup K 2 (gCons (gOf K a) (gCons (gOf K b) gNil))
 | .t3 a b c => gTup K 3 (gCons (gOf K a) (gCons (gOf K b) (gCons (gOf K c) gNil)))
def tupD : D -> Option (List D)
 | .tup ds => some (ds.map D.da)
 | .con ds => some (ds.map D.da)
 | _ => none
def setD : Tg -> D -> En -> Option En
 | .nm i, d, ρ => some (ρ.set i (some d))
 | .t2 a b, d, ρ => match tupD d with
  | some [x, y] => match setD a x ρ with
   | some ρ1 => setD b y ρ1
   | none => none
  | _ => none
 | .t3 a b c, d, ρ => match tupD d with
  | some [x, y, z] => match setD a x ρ with
   | some ρ1 => match setD b y ρ1 with
    | some ρ2 => setD c z ρ2
    | none => none
   | none => none
  | _ => none
def tgLt (k : Nat) : Tg -> Bool
 | .nm i => decide (i < k)
 | .t2 a b => tgLt k a && tgLt k b
 | .t3 a b c => tgLt k a && tgLt k b && tgLt k c
def Fra (k : Nat) (σ σ' : St) : Prop := ∀ vs cap : St, vs.length = k -> σ = vs ++ cap -> ∃ vs' : St, vs'.length = k /\ σ' = vs' ++ cap
theorem Fra.trans {k : Nat} {a b c : St} (h1 : Fra k a b) (h2 : Fra k b c) : Fra k a c := fun vs cap h e => by
 obtain ⟨v1, l1, e1⟩ := h1 vs cap h e
 exact h2 v1 cap l1 e1
theorem tupD_sq {K : PySem.W.Frag} {as : As} {H : Hp} {v : V} {d : D} {ds : List D} (r : RD K as H v d) (h : tupD d = some ds) : ∃ p xs, v = .ref p /\ SqT K H p xs /\ RDs K as H xs ds := by
 cases r with
 | da t =>
  cases t with
  | tup n e r => cases h; exact ⟨_, _, rfl, SqT.of e, r.rd⟩
  | _ => cases h
 | con q r => cases h; exact ⟨_, _, rfl, q H, r.rd⟩
 | _ => cases h
theorem ref_tg {K : PySem.W.Frag} : ∀ (tg : Tg) {as : As} {σ : St} {H : Hp} {ρ ρ' : En} {v : V} {d : D} {Q : St -> Hp -> Prop}, Envs K as H ρ σ -> RD K as H v d -> setD tg d ρ = some ρ' ->
  (∀ σ', Envs K as H ρ' σ' -> (∀ k, tgLt k tg = true -> Fra k σ σ') -> Q σ' H) -> gOf K tg v σ H Q
 | .nm i, as, σ, H, ρ, ρ', v, d, Q, en, r, e, h => by
  cases e
  refine h (σ.set i (some v)) (en.set i r) fun k hk vs cap hl z => ?_
  have hi : i < k := of_decide_eq_true hk
  subst z
  exact ⟨vs.set i (some v), by simpa using hl, by rw [List.set_append_left _ _ (by omega)]⟩
 | .t2 a b, as, σ, H, ρ, ρ', v, d, Q, en, r, e, h => by
  unfold setD at e
  split at e
  ·rename_i x y q
   obtain ⟨p, xs, rfl, sq, rs⟩ := tupD_sq r q
   cases rs with
   | cons r1 rs =>
   cases rs with
   | cons r2 rs =>
   cases rs
   split at e
   ·rename_i ρ1 q1
    refine ⟨p, _, rfl, sq, rfl, _, _, rfl, ref_tg a en r1 q1 fun σ1 en1 f1 => ⟨_, _, rfl, ref_tg b en1 r2 e fun σ2 en2 f2 => ⟨rfl, h σ2 en2 fun k hk => ?_⟩⟩⟩
    simp only [tgLt, Bool.and_eq_true] at hk
    exact (f1 k hk.1).trans (f2 k hk.2)
   ·cases e
  ·cases e
 | .t3 a b c, as, σ, H, ρ, ρ', v, d, Q, en, r, e, h => by
  unfold setD at e
  split at e
  ·rename_i x y z q
   obtain ⟨p, xs, rfl, sq, rs⟩ := tupD_sq r q
   cases rs with
   | cons r1 rs =>
   cases rs with
   | cons r2 rs =>
   cases rs with
   | cons r3 rs =>
   cases rs
   split at e
   ·rename_i ρ1 q1
    split at e
    ·rename_i ρ2 q2
     refine ⟨p, _, rfl, sq, rfl, _, _, rfl, ref_tg a en r1 q1 fun σ1 en1 f1 => ⟨_, _, rfl, ref_tg b en1 r2 q2 fun σ2 en2 f2 => ⟨_, _, rfl, ref_tg c en2 r3 e fun σ3 en3 f3 => ⟨rfl, h σ3 en3 fun k hk => ?_⟩⟩⟩⟩
     simp only [tgLt, Bool.and_eq_true] at hk
     exact ((f1 k hk.1.1).trans (f2 k hk.1.2)).trans (f3 k hk.2)
    ·cases e
   ·cases e
  ·cases e
abbrev Wk := List D × Option Nat
abbrev FI := En -> S -> R Wk
def SrcOk (p : Wk) (s : S) : Prop := match p.2 with
 | none => True
 | some n => s[n]? = some (.lst p.1)
open Classical in
noncomputable def chk {α : Type} (p : Wk) (s : S) (k : R α) : R α := if SrcOk p s then k else .bad
theorem chk_none {α : Type} {ds : List D} {s : S} {k : R α} : chk (ds, none) s k = k := if_pos trivial
theorem chk_pos {α : Type} {p : Wk} {s : S} {k : R α} (h : SrcOk p s) : chk p s k = k := if_pos h
theorem Dn.chk {α β : Type} {K : PySem.W.Frag} {rel : As -> Hp -> β -> α -> Prop} {as : As} {H : Hp} {p : Wk} {s : S} {r : R α} {Q : β -> Hp -> Prop} (h : Dn K rel as H (chk p s r) Q) : SrcOk p s /\ Dn K rel as H r Q := by
 by_cases c : SrcOk p s
 ·rw [chk_pos c] at h; exact ⟨c, h⟩
 ·have e : PF.chk p s r = .bad := if_neg c
  rw [e] at h; exact h.elim
def ItOk (K : PySem.W.Frag) (as : As) (H : Hp) (J : It) (p : Wk) : Prop := ∀ as2 H2 s2, Step0 as H as2 H2 -> Rel K as2 H2 s2 -> SrcOk p s2 -> ∀ i : Nat,
 (p.1.length <= i -> J.stop i H2) /\ ∀ d, p.1[i]? = some d -> J.go i H2 /\ ∀ x H3, J.yld i H2 x H3 -> Step as2 H2 as2 H3 /\ Rel K as2 H3 s2 /\ RD K as2 H3 x d
def RefI (K : PySem.W.Frag) (wi : TI) (f : FI) : Prop := ∀ as σ H ρ s Q, Rel K as H s -> Envs K as H ρ σ -> Dn K (ItOk K) as H (f ρ s) Q -> wi σ H Q
structure RI (X : Cx) (tg iter : Expr) (f : FI) : Prop where
 ex : ∃ t, PI X tg iter t /\ RefI X.K t f
structure RG (X : Cx) (tg : Expr) (g : Tg) : Prop where
 pg : PG X tg (gOf X.K g)
section
variable {X : Cx} {a b : Expr} {fa fb : FE} {pos : Pos}
theorem rg_name {i : Nat} {x : Str} (hN : X.N.Nodup) (hi : X.N[i]? = some x) (hx : Loc X.env.scope x) (hf : X.fn x = true \/ X.env.scope.names.lookup x = some .local := by first | exact .inl rfl | exact .inr rfl | assumption) : RG X (.Name x pos) (.nm i) := ⟨pg_name hN hi hx hf⟩
theorem rg_t2 {e1 e2 : Expr} {g1 g2 : Tg} {k : Nat} (hc : X.calm = true) (h1 : RG X e1 g1) (h2 : RG X e2 g2) (hn : (assignEach [e1, e2] X.env).length = 2 := by rfl) (hst : (assignEach [e1, e2] X.env).findIdx? (·.1) = none := by rfl)
  (s1 : (assignEach [e1, e2] X.env).map (·.2) = assign e1 X.env :: (assignEach [e2] X.env).map (·.2) := by rfl) (s2 : (assignEach [e2] X.env).map (·.2) = assign e2 X.env :: (assignEach [] X.env).map (·.2) := by rfl) : RG X (.Tuple [e1, e2] k pos) (.t2 g1 g2) :=
 ⟨pg_tup hc (pgs_cons h1.pg (pgs_cons h2.pg pgs_nil s2) s1) hn hst⟩
def fRet (f : FE) : FS := fun ρ s => (f ρ s).bind fun d s1 => .ok (.rt d) s1
def fDrop (f : FE) : FS := fun ρ s => (f ρ s).bind fun _ s1 => .ok (.nx ρ) s1
def fNext : FS := fun ρ s => .ok (.nx ρ) s
def fSet (i : Nat) (f : FE) : FS := fun ρ s => (f ρ s).bind fun d s1 => .ok (.nx (ρ.set i (some d))) s1
def fAsg (g : Tg) (f : FE) : FS := fun ρ s => (f ρ s).bind fun d s1 => match setD g d ρ with
 | some ρ1 => .ok (.nx ρ1) s1
 | none => .bad
def fIfS (c : FT) (f g : FS) : FS := fun ρ s => (c ρ s).bind fun k s1 => if k = true then f ρ s1 else g ρ s1
def fSeq (f g : FS) : FS := fun ρ s => (f ρ s).bind fun fl s1 => match fl with
 | .nx ρ1 => g ρ1 s1
 | fl => .ok fl s1
theorem rs_ret (h : RE X a fa) : RS X (.Return (some a) pos) (fRet fa) := by
 obtain ⟨t, p, r⟩ := h.ex
 refine ⟨_, ps_ret p, fun as σ H ρ s D rl en h => ?_⟩
 exact r as σ H ρ s _ rl en (Dn.bind h fun d s1 as1 H1 v st1 rl1 r1 h1 => Dn.now (b := FV.rt v) h1 rl1 (.rt r1))
theorem rs_expr (h : RE X a fa) (hs : swapsWith a none pos.line X.env = pure false := by rfl) : RS X (.Expr a pos) (fDrop fa) := by
 obtain ⟨t, p, r⟩ := h.ex
 refine ⟨_, ps_expr p hs, fun as σ H ρ s D rl en h => ?_⟩
 exact r as σ H ρ s _ rl en (Dn.bind h fun d s1 as1 H1 v st1 rl1 r1 h1 => Dn.now (b := FV.nx σ) h1 rl1 (.nx (en.mono st1)))
theorem rs_set {i : Nat} {x : Str} {pos' : Pos} (hN : X.N.Nodup) (hi : X.N[i]? = some x) (hx : Loc X.env.scope x) (h : RE X a fa) (hs : swapsWith a (some (.Name x pos')) pos.line X.env = pure false := by rfl) (hf : X.fn x = true \/ X.env.scope.names.lookup x = some .local := by first | exact .inl rfl | exact .inr rfl | assumption) : RS X (.Assign [.Name x pos'] a pos) (fSet i fa) := by
 obtain ⟨t, p, r⟩ := h.ex
 refine ⟨_, ps_set hN hi hx p hs hf, fun as σ H ρ s D rl en h => ?_⟩
 exact r as σ H ρ s _ rl en (Dn.bind h fun d s1 as1 H1 v st1 rl1 r1 h1 => Dn.now (b := FV.nx (σ.set i (some v))) h1 rl1 (.nx ((en.mono st1).set i r1)))
theorem rs_asg {tg : Expr} {g : Tg} (h : RE X a fa) (hg : RG X tg g) (hs : swapsWithSole [tg] a pos.line X.env = pure false := by rfl) (hw : swappedStores [tg] a X.env = pure none := by rfl) (h1 : (assignEach [tg] X.env).map (·.2) = [assign tg X.env] := by rfl) : RS X (.Assign [tg] a pos) (fAsg g fa) := by
 obtain ⟨t, p, r⟩ := h.ex
 refine ⟨_, ps_asg p hg.pg hs hw h1, fun as σ H ρ s D rl en h => ?_⟩
 refine r as σ H ρ s _ rl en (Dn.bind h fun d s1 as1 H1 v st1 rl1 r1 h1 => ?_)
 split at h1
 ·rename_i ρ1 q
  exact ref_tg g (en.mono st1) r1 q fun σ' en' _ => Dn.now (b := FV.nx σ') h1 rl1 (.nx en')
 ·exact h1.elim
theorem rs_if {c : Expr} {st su : List Stmt} {fc : FT} {f g : FS} (hc : RT X c fc) (h1 : RSs X st f) (h2 : RSs X su g) : RS X (.If c st su pos) (fIfS fc f g) := by
 obtain ⟨tc, pc, rc⟩ := hc.ex
 obtain ⟨t, p, r⟩ := h1.ex
 obtain ⟨t', p', r'⟩ := h2.ex
 refine ⟨_, ps_if pc p p', fun as σ H ρ s D rl en h => ?_⟩
 refine rc as σ H ρ s _ rl en (Dn.bind h fun k s1 as1 H1 x st1 rl1 r1 h1 => ?_)
 have e1 : x = k := r1
 subst e1
 cases x with
 | true => rw [if_pos rfl] at h1 ⊢; exact r as1 σ H1 ρ s1 D rl1 (en.mono st1) h1
 | false => rw [if_neg Bool.false_ne_true] at h1 ⊢; exact r' as1 σ H1 ρ s1 D rl1 (en.mono st1) h1
theorem rss_nil : RSs X [] fNext := ⟨_, pss_nil, fun as σ H ρ s D rl en h => Dn.now (b := FV.nx σ) h rl (.nx en)⟩
theorem rss_one {st : Stmt} {f : FS} (h : RS X st f) : RSs X [st] f := let ⟨t, p, r⟩ := h.ex; ⟨_, pss_one p, r⟩
theorem ref_seq {K : PySem.W.Frag} {t u : TS} {f g : FS} (h1 : RefS K t f) (h2 : RefS K u g) : RefS K (tSeq t u) (fSeq f g) := by
 intro as σ H ρ s D rl en h
 refine h1 as σ H ρ s _ rl en (Dn.bind h fun fl s1 as1 H1 fv st1 rl1 r1 h1 => ?_)
 cases r1 with
 | nx e => exact h2 as1 _ H1 _ s1 D rl1 e h1
 | rt e => exact (show endF D (.rt _) H1 from Dn.now (K := K) (rel := rF K) (Q := endF D) (b := FV.rt _) h1 rl1 (rF.rt e))
 | bk e => exact (show endF D (.bk _) H1 from Dn.now (K := K) (rel := rF K) (Q := endF D) (b := FV.bk _) h1 rl1 (rF.bk e))
 | ct e => exact (show endF D (.ct _) H1 from Dn.now (K := K) (rel := rF K) (Q := endF D) (b := FV.ct _) h1 rl1 (rF.ct e))
theorem rss_cons {st : Stmt} {rest : List Stmt} {f g : FS} (h : RS X st f) (k : RSs X rest g) : RSs X (st :: rest) (fSeq f g) := by
 obtain ⟨t, p, r⟩ := h.ex
 obtain ⟨t', p', r'⟩ := k.ex
 exact ⟨_, pss_cons p p', ref_seq r r'⟩
noncomputable def loopF (g : Tg) (fb : FS) (p : Wk) : List D -> En -> S -> R Fl
 | [], ρ, s => .ok (.nx ρ) s
 | d :: r, ρ, s => match setD g d ρ with
  | none => .bad
  | some ρ1 => (fb ρ1 s).bind fun fl s2 => match fl with
   | .nx ρ2 => chk p s2 (loopF g fb p r ρ2 s2)
   | .ct ρ2 => chk p s2 (loopF g fb p r ρ2 s2)
   | .bk ρ2 => .ok (.nx ρ2) s2
   | .rt d => .ok (.rt d) s2
noncomputable def fFor (fi : FI) (g : Tg) (fb : FS) : FS := fun ρ s => (fi ρ s).bind fun p s1 => chk p s1 (loopF g fb p p.1 ρ s1)
theorem rs_for {tg iter : Expr} {body : List Stmt} {fi : FI} {g : Tg} {fb : FS} (hc : X.calm = true) (hi : RI X tg iter fi) (hg : RG X tg g) (hb : RSs X body fb) (hp : PassesOwn (model X.prog X.w) X.A X.env X.xe := by exact PassesOwn.never)
  (hs : ∀ x, foldedSetIterable iter X.env x = pure x := by intro _; rfl) : RS X (.For tg iter body [] pos) (fFor fi g fb) := by
 obtain ⟨wi, pi, ri⟩ := hi.ex
 obtain ⟨tb, pb, rb⟩ := hb.ex
 refine ⟨_, ps_for hp hc pi hg.pg pb hs, fun as σ H ρ s D rl en h => ?_⟩
 refine ri as σ H ρ s _ rl en (Dn.bind h fun p s1 as1 H1 J st1 rl1 r1 h1 => ?_)
 obtain ⟨so, h1⟩ := Dn.chk h1
 refine ⟨fun i m σ' H' => ∃ as2 ρ2 s2, m = p.1.length - i /\ i <= p.1.length /\ Step as1 H1 as2 H' /\ Rel X.K as2 H' s2 /\ Envs X.K as2 H' ρ2 σ' /\ SrcOk p s2 /\ Dn X.K (rF X.K) as2 H' (loopF g fb p (p.1.drop i) ρ2 s2) (endF D),
  ⟨_, as1, ρ, s1, rfl, Nat.zero_le _, Step.refl _ _, rl1, en.mono st1, so, h1⟩, ?_⟩
 rintro i m σ' H' ⟨as2, ρ2, s2, hm, hi, st2, rl2, en2, so2, h2⟩
 have tn := r1 as2 H' s2 st2.toStep0 rl2 so2 i
 by_cases hl : i < p.1.length
 ·obtain ⟨d, hd⟩ : ∃ d, p.1[i]? = some d := ⟨_, List.getElem?_eq_getElem hl⟩
  have hdr : p.1.drop i = d :: p.1.drop (i + 1) := by
   rw [List.drop_eq_getElem_cons hl]
   rw [List.getElem?_eq_getElem hl] at hd
   cases hd; rfl
  rw [hdr] at h2
  obtain ⟨go, yl⟩ := tn.2 d hd
  unfold loopF at h2
  split at h2
  ·exact h2.elim
  ·rename_i ρ3 q3
   refine .inr ⟨go, fun σ4 H4 => ∃ as4 ρ4 s4, Step as1 H1 as4 H4 /\ Rel X.K as4 H4 s4 /\ Envs X.K as4 H4 ρ4 σ4 /\ SrcOk p s4 /\ Dn X.K (rF X.K) as4 H4 (loopF g fb p (p.1.drop (i + 1)) ρ4 s4) (endF D), ?_, fun x H3 hy => ?_⟩
   ·rintro σ4 H4 ⟨as4, ρ4, s4, a1, a2, a3, a4, a5⟩
    exact ⟨p.1.length - (i + 1), by omega, as4, ρ4, s4, rfl, hl, a1, a2, a3, a4, a5⟩
   ·obtain ⟨st3, rl3, rx⟩ := yl x H3 hy
    refine ref_tg g (en2.mono st3) rx q3 fun σ3 en3 _ => ?_
    refine rb as2 σ3 H3 ρ3 s2 _ rl3 en3 (Dn.bind (Dn.step h2 st3) fun fl s5 as5 H5 fv st5 rl5 r5 h5 => ?_)
    cases r5 with
    | nx e =>
     obtain ⟨so5, h5⟩ := Dn.chk h5
     exact ⟨as5, _, s5, (st2.trans st3).trans st5, rl5, e, so5, h5⟩
    | ct e =>
     obtain ⟨so5, h5⟩ := Dn.chk h5
     exact ⟨as5, _, s5, (st2.trans st3).trans st5, rl5, e, so5, h5⟩
    | rt e => exact (show endF D (.rt _) H5 from Dn.now (K := X.K) (rel := rF X.K) (Q := endF D) (b := FV.rt _) h5 rl5 (rF.rt e))
    | bk e => exact (show endF D (.nx _) H5 from Dn.now (K := X.K) (rel := rF X.K) (Q := endF D) (b := FV.nx _) h5 rl5 (rF.nx e))
 ·refine .inl ⟨tn.1 (Nat.le_of_not_lt hl), ?_⟩
  rw [List.drop_eq_nil_of_le (Nat.le_of_not_lt hl)] at h2
  exact Dn.now (b := FV.nx σ') h2 rl2 (.nx en2)
end
end PF
namespace PF
open PySem PySem.Spec
open L2
def gIter (d : D) (s : S) : R Wk := match d with
 | .lst ds => .ok (ds.map D.da, none) s
 | .tup ds => .ok (ds.map D.da, none) s
 | .con ds => .ok (ds.map D.da, none) s
 | .frz ds => .ok (ds.map D.da, none) s
 | .ref n => match s[n]? with
  | some (.lst ds) => .ok (ds, some n) s
  | _ => .bad
 | _ => .bad
def fIt (f : FE) : FI := fun ρ s => (f ρ s).bind gIter
section
variable {X : Cx} {tg a b : Expr} {fa fb : FE} {pos : Pos}
def iAny (K : PySem.W.Frag) (tl : TE) : TI := fun σ H R => tl σ H fun x H1 => ∃ a, x = .ref a /\ (((∃ xs, SqL K H1 a xs) /\ R (Itl K a) H1) \/ ((∃ xs, SqT K H1 a xs) /\ R (Itt K a) H1))
theorem pi_any {l : Expr} {tl : TE} (hl : PE X l tl) : PI X tg l (iAny X.K tl) := by
 intro pins s σ H R I h
 refine thn (hl pins s σ H _ I h) fun v s1 ⟨x, H1, I1, r1, q1⟩ => ?_
 obtain ⟨a, e, q1⟩ := q1
 subst e
 cases r1
 have fp : ∀ b ∈ [s1.heap.objs.size], FpOk X pins H1 b := fun b hb => by
  have e : b = s1.heap.objs.size := by simpa using hb
  subst e
  exact I1.fpOk (Nat.le_refl _) (I1.hok.fresh (Nat.le_refl _))
 rcases q1 with ⟨⟨xs, hq⟩, q⟩ | ⟨⟨xs, hq⟩, q⟩
 ·obtain ⟨its, rv, p, hz⟩ := I1.list hq
  refine wpAny_pyIter_list p.isList ?_
  exact ⟨s1.heap.objs.size, [s1.heap.objs.size], _, _, H1, rfl, I1.kept (t' := s1.toks) fun b o e => Heap.get?_push_of_some _ e, turn_list a _, ⟨_, Heap.get?_push_size _ rfl, rfl, rfl⟩, fp, q⟩
 ·obtain ⟨its, rv, p, hz⟩ := I1.tuple hq
  refine wpAny_pyIter_tuple (show s1.heap.IsTuple a its.toArray from p) ?_
  exact ⟨s1.heap.objs.size, [s1.heap.objs.size], _, _, H1, rfl, I1.kept (t' := s1.toks) fun b o e => Heap.get?_push_of_some _ e, turn_tuple a _, ⟨_, Heap.get?_push_size _ rfl, rfl, rfl⟩, fp, q⟩
theorem itok_l {K : PySem.W.Frag} {as : As} {H : Hp} {p : Addr} {xs : List V} {w : Wk} (h : ∀ as2 H2 s2, Step0 as H as2 H2 -> Rel K as2 H2 s2 -> SrcOk w s2 -> ∃ ys, SqL K H2 p ys /\ RDs K as2 H2 ys w.1) : ItOk K as H (Itl K p) w := by
 intro as2 H2 s2 st rl so i
 obtain ⟨ys, sq, rs⟩ := h as2 H2 s2 st rl so
 refine ⟨fun hl => ⟨ys, sq, by rw [rs.length]; exact hl⟩, fun d hd => ?_⟩
 obtain ⟨v, hv, r⟩ := rs.get hd
 refine ⟨⟨ys, v, sq, hv⟩, fun x H3 hy => ?_⟩
 obtain ⟨rfl, hx⟩ := hy
 have := hx ys sq
 rw [hv] at this
 cases this
 exact ⟨Step.refl _ _, rl, r⟩
theorem itok_t {K : PySem.W.Frag} {as : As} {H : Hp} {p : Addr} {xs : List V} {w : Wk} (h : ∀ as2 H2 s2, Step0 as H as2 H2 -> Rel K as2 H2 s2 -> SrcOk w s2 -> ∃ ys, SqT K H2 p ys /\ RDs K as2 H2 ys w.1) : ItOk K as H (Itt K p) w := by
 intro as2 H2 s2 st rl so i
 obtain ⟨ys, sq, rs⟩ := h as2 H2 s2 st rl so
 refine ⟨fun hl => ⟨ys, sq, by rw [rs.length]; exact hl⟩, fun d hd => ?_⟩
 obtain ⟨v, hv, r⟩ := rs.get hd
 refine ⟨⟨ys, v, sq, hv⟩, fun x H3 hy => ?_⟩
 obtain ⟨rfl, hx⟩ := hy
 have := hx ys sq
 rw [hv] at this
 cases this
 exact ⟨Step.refl _ _, rl, r⟩
theorem ref_list {K : PySem.W.Frag} {as : As} {H : Hp} {s : S} {p : Addr} {n : Nat} {ds : List D} (rl : Rel K as H s) (hr : ∀ q, as.ix[n]? = some (some q) -> q = p) (e : s[n]? = some (.lst ds)) : as.ix[n]? = some (some p) /\ ∃ xs, H p = some (.lst xs) /\ RDs K as H xs ds := by
 obtain ⟨q, hq⟩ := rl.li n _ e (by intro z; cases z)
 cases hr q hq
 exact ⟨hq, rl.ob n p _ hq e⟩
theorem ri_any (h : RE X a fa) : RI X tg a (fIt fa) := by
 obtain ⟨t, p, r⟩ := h.ex
 refine ⟨_, pi_any p, fun as σ H ρ s Q rl en h => ?_⟩
 refine r as σ H ρ s _ rl en (Dn.bind h fun d s1 as1 H1 v st1 rl1 r1 h1 => ?_)
 cases r1 with
 | da t =>
  cases t with
  | tup n e rs => exact ⟨_, rfl, .inr ⟨⟨_, SqT.of e⟩, Dn.now (Q := Q) h1 rl1 (itok_t (xs := []) fun as2 H2 s2 st rl so => ⟨_, SqT.of (st.keep _ _ n e), (rs.mono0 st).rd⟩)⟩⟩
  | lst n e rs => exact ⟨_, rfl, .inl ⟨⟨_, SqL.of e⟩, Dn.now (Q := Q) h1 rl1 (itok_l (xs := []) fun as2 H2 s2 st rl so => ⟨_, SqL.of (st.keep _ _ n e), (rs.mono0 st).rd⟩)⟩⟩
  | _ => exact h1.elim
 | con q rs => exact ⟨_, rfl, .inr ⟨⟨_, q H1⟩, Dn.now (Q := Q) h1 rl1 (itok_t (xs := []) fun as2 H2 s2 st rl so => ⟨_, q H2, (rs.mono0 st).rd⟩)⟩⟩
 | frz q rs => exact ⟨_, rfl, .inl ⟨⟨_, q as1 H1 (Step.refl _ _).toStep0⟩, Dn.now (Q := Q) h1 rl1 (itok_l (xs := []) fun as2 H2 s2 st rl so => ⟨_, q as2 H2 st, (rs.mono0 st).rd⟩)⟩⟩
 | @ref pp n l hr =>
  have h1 : Dn X.K (ItOk X.K) as1 H1 (match s1[n]? with | some (O.lst ds) => R.ok (ds, some n) s1 | _ => R.bad) Q := h1
  split at h1
  ·rename_i ds e
   obtain ⟨ha, xs, hx, rs⟩ := ref_list rl1 hr e
   refine ⟨_, rfl, .inl ⟨⟨_, SqL.of hx⟩, Dn.now (Q := Q) h1 rl1 (itok_l (xs := []) fun as2 H2 s2 st rl so => ?_)⟩⟩
   have so' : s2[_]? = some (O.lst ds) := so
   obtain ⟨q, hq⟩ := rl.li _ _ so' (by intro z; cases z)
   have e2 := hq
   rcases st.old _ l with z | z
   ·rw [z] at e2
    cases hr q e2
    obtain ⟨ys, hy, rs2⟩ := rl.ob _ _ _ hq so'
    exact ⟨ys, SqL.of hy, rs2⟩
   ·rw [z] at e2; cases e2
  ·exact h1.elim
 | _ => exact h1.elim
def rngD (lo : Int) : Nat -> List D
 | 0 => []
 | n + 1 => .int lo :: rngD (lo + 1) n
theorem rng_len : ∀ (n : Nat) (lo : Int), (rngD lo n).length = n
 | 0, _ => rfl
 | n + 1, lo => congrArg (· + 1) (rng_len n (lo + 1))
theorem rng_get : ∀ (n : Nat) (lo : Int) (i : Nat), i < n -> (rngD lo n)[i]? = some (.int (lo + i))
 | n + 1, lo, 0, _ => by simp [rngD]
 | n + 1, lo, i + 1, h => by
  rw [rngD, List.getElem?_cons_succ, rng_get n (lo + 1) i (by omega)]
  have : lo + 1 + (i : Int) = lo + ((i + 1 : Nat) : Int) := by omega
  rw [this]
theorem itok_r {K : PySem.W.Frag} {as : As} {H : Hp} (lo : Int) (n : Nat) : ItOk K as H (Itr lo n) (rngD lo n, none) := by
 intro as2 H2 s2 st rl so i
 refine ⟨fun hl => by rw [rng_len] at hl; exact hl, fun d hd => ?_⟩
 have hl : i < n := by
  have := (List.getElem?_eq_some_iff.mp hd).1
  rw [rng_len] at this; exact this
 rw [rng_get n lo i hl] at hd
 cases hd
 refine ⟨hl, fun x H3 hy => ?_⟩
 obtain ⟨rfl, rfl⟩ := hy
 exact ⟨Step.refl _ _, rl, .da (.int _)⟩
def gRng (ds : List D) (s : S) : R Wk := match ds with
 | [.int j] => if -(2 ^ 62) <= j /\ j < 2 ^ 62 then .ok (rngD 0 j.toNat, none) s else .bad
 | _ => .bad
def fRng (f : FA) : FI := fun ρ s => (f ρ s).bind gRng
theorem RD.int_inv {K : PySem.W.Frag} {as : As} {H : Hp} {v : V} {i : Int} (h : RD K as H v (.int i)) : v = .int i := by
 cases h with | da t => cases t; rfl
theorem RD.str_inv {K : PySem.W.Frag} {as : As} {H : Hp} {v : V} {x : Str} (h : RD K as H v (.str x)) : v = .str x := by
 cases h with | da t => cases t; rfl
theorem RD.bl_inv {K : PySem.W.Frag} {as : As} {H : Hp} {v : V} {x : Bool} (h : RD K as H v (.bl x)) : v = .bl x := by
 cases h with | da t => cases t; rfl
theorem RDs.one {K : PySem.W.Frag} {as : As} {H : Hp} {vs : List V} {d : D} (h : RDs K as H vs [d]) : ∃ v, vs = [v] /\ RD K as H v d := by
 cases h with | cons a b => cases b; exact ⟨_, rfl, a⟩
theorem RDs.two {K : PySem.W.Frag} {as : As} {H : Hp} {vs : List V} {d e : D} (h : RDs K as H vs [d, e]) : ∃ v w, vs = [v, w] /\ RD K as H v d /\ RD K as H w e := by
 cases h with | cons a b => cases b with | cons b c => cases c; exact ⟨_, _, rfl, a, b⟩
theorem ri_rng {f : FA} {p : Pos} (hm : X.mg "range" = none) (h : RA X [a] f) (hg : Gl X "range" := by rfl) (hs : starEach [a] X.env = [(false, eval a X.env)] := by rfl) : RI X tg (.Call (.Name "range" p) [a] [] pos) (fRng f) := by
 obtain ⟨t, p, r⟩ := h.ex
 refine ⟨_, pi_range1 hg hm p hs, fun as σ H ρ s Q rl en h => ?_⟩
 refine r as σ H ρ s _ rl en (Dn.bind h fun ds s1 as1 H1 vs st1 rl1 r1 h1 => ?_)
 unfold gRng at h1
 split at h1
 ·rename_i j
  obtain ⟨v, rfl, rv⟩ := r1.one
  cases rv.int_inv
  split at h1
  ·rename_i hb
   exact ⟨j, rfl, hb.1, hb.2, Dn.now (Q := Q) h1 rl1 (itok_r 0 _)⟩
  ·exact h1.elim
 ·exact h1.elim
noncomputable def compF (g : Tg) (ft : FT) (fe : FE) (ρ0 : En) (p : Wk) : List D -> S -> R (List D)
 | [], s => .ok [] s
 | d :: r, s => match setD g d ρ0 with
  | none => .bad
  | some ρ1 => (ft ρ1 s).bind fun b s2 => if b = true then (fe ρ1 s2).bind fun x s3 => chk p s3 ((compF g ft fe ρ0 p r s3).bind fun xs s4 => .ok (x :: xs) s4) else chk p s2 (compF g ft fe ρ0 p r s2)
def capD (ρ : En) (js : List Nat) : En := js.map fun j => (ρ[j]?).join
noncomputable def fLc (m : Bool) (js : List Nat) (k : Nat) (fi : FI) (g : Tg) (ft : FT) (fe : FE) : FE := fun ρ s => (fi ρ s).bind fun p s1 => if p.1.length <= sizeLine then chk p s1 ((compF g ft fe (List.replicate k none ++ capD ρ js) p p.1 s1).bind fun ds s2 => newL m ds s2) else .bad
def fYes : FT := fun _ s => .ok true s
structure RIfs (X : Cx) (ifs : List Expr) (f : FT) : Prop where
 run : PIfs X ifs (tOfT X.K f)
theorem rifs_nil : RIfs X [] fYes := ⟨fun pins s σ H Q I ⟨as, ρ, s', rl, en, h⟩ => pifs_nil pins s σ H Q I (show Q true H from Dn.now h rl rfl)⟩
theorem rifs_one {f : FT} (h : RT X a f) : RIfs X [a] f := ⟨pifs_one h.pt⟩
theorem Envs.caps {K : PySem.W.Frag} {as : As} {H : Hp} {ρ : En} {σ : St} (e : Envs K as H ρ σ) (js : List Nat) : Envs K as H (capD ρ js) (capV σ js) := by
 refine ⟨by simp [capD, capV], fun i d h => ?_⟩
 unfold capD at h
 unfold capV
 rw [List.getElem?_map] at h ⊢
 cases q : js[i]? with
 | none => rw [q] at h; cases h
 | some j =>
  rw [q] at h
  have h : (ρ[j]?).join = some d := by simpa using h
  cases z : ρ[j]? with
  | none => rw [z] at h; cases h
  | some o =>
   rw [z] at h
   cases o with
   | none => cases h
   | some x =>
    cases h
    obtain ⟨v, e1, r⟩ := e.get j d z
    exact ⟨v, by simp [e1], r⟩
theorem Envs.own {K : PySem.W.Frag} {as : As} {H : Hp} {ρ : En} {σ vs : St} {k : Nat} (e : Envs K as H ρ σ) (hl : vs.length = k) : Envs K as H (List.replicate k none ++ ρ) (vs ++ σ) := by
 refine ⟨by simp [hl, e.len], fun i d h => ?_⟩
 by_cases z : i < k
 ·rw [List.getElem?_append_left (by simpa using z), List.getElem?_replicate] at h
  simp [z] at h
 ·rw [List.getElem?_append_right (by simpa using Nat.le_of_not_lt z)] at h
  rw [List.getElem?_append_right (by rw [hl]; exact Nat.le_of_not_lt z)]
  rw [hl]
  exact e.get _ d (by simpa using h)
theorem lcB {K : PySem.W.Frag} {as : As} {H : Hp} {s : S} {J : It} {p : Wk} {g : Tg} {ft : FT} {fe : FE} {ρ0 : En} {k : Nat} {cap : St} {m : Bool} {Q : VK} (hg : tgLt k g = true) (hz : p.1.length <= sizeLine) (rl : Rel K as H s) (ri : ItOk K as H J p) (so : SrcOk p s)
  (en : ∀ vs : St, vs.length = k -> Envs K as H ρ0 (vs ++ cap)) (h : Dn K (rD K) as H ((compF g ft fe ρ0 p p.1 s).bind fun ds s2 => newL m ds s2) Q) : tLcB (gOf K g) (tOfT K ft) (tOf K fe) k cap J H Q := by
 intro D hD
 have n0 : New H D (.lst []) (upd H D (.lst [])) := ⟨hD, rfl⟩
 have nh : D ∉ as.hd := fun z => by obtain ⟨_, e⟩ := rl.hs D z; rw [hD] at e; cases e
 have s0 := step_hide (as := as) n0
 refine ⟨fun i mm ys H' => ∃ as2 s2 ds, mm = p.1.length - i /\ i <= p.1.length /\ ys.length <= i /\ Step as H as2 H' /\ D ∈ as2.hd /\ Rel K as2 H' s2 /\ SrcOk p s2 /\ RDs K as2 H' ys ds /\
   Dn K (rD K) as H ((compF g ft fe ρ0 p (p.1.drop i) s2).bind fun xs s3 => newL m (ds ++ xs) s3) Q,
  ⟨_, as.hide D, s, [], rfl, Nat.zero_le _, Nat.le_refl _, s0, List.mem_cons_self, rl.hide n0, so, .nil, h⟩, ?_⟩
 rintro i mm ys H' hDi ⟨as2, s2, ds, hm, hi, hys, st2, mD2, rl2, so2, rs, h2⟩
 have tn := ri as2 H' s2 st2.toStep0 rl2 so2 i
 by_cases hl : i < p.1.length
 ·obtain ⟨d, hd⟩ : ∃ d, p.1[i]? = some d := ⟨_, List.getElem?_eq_getElem hl⟩
  have hdr : p.1.drop i = d :: p.1.drop (i + 1) := by
   rw [List.drop_eq_getElem_cons hl]
   rw [List.getElem?_eq_getElem hl] at hd
   cases hd; rfl
  rw [hdr] at h2
  obtain ⟨go, yl⟩ := tn.2 d hd
  unfold compF at h2
  split at h2
  ·exact h2.elim
  ·rename_i ρ3 q3
   refine .inr ⟨go, fun x H3 hy vs hv => ?_⟩
   obtain ⟨st3, rl3, rx⟩ := yl x H3 hy
   refine ref_tg g ((en vs hv).mono (st2.trans st3)) rx q3 fun σ3 en3 fr => ?_
   refine ⟨fr k hg vs cap hv rfl, as2, ρ3, s2, rl3, en3, ?_⟩
   have eD3 : H3 D = some (.lst ys) := st3.hh D mD2 _ hDi
   cases qt : ft ρ3 s2 with
   | bad => rw [qt] at h2; exact h2.elim
   | ok b s4 =>
    rw [qt] at h2
    intro b' as4 H4 st4 rl4 eb
    have eb' : b' = b := eb
    subst eb'
    have mD4 : D ∈ as4.hd := st4.hk D mD2
    have eD4 : H4 D = some (.lst ys) := st4.hh D mD2 _ eD3
    have st24 := (st2.trans st3).trans st4
    rw [R.bind_ok] at h2
    cases b' with
    | false =>
     rw [if_neg Bool.false_ne_true] at h2 ⊢
     by_cases c : SrcOk p s4
     ·rw [chk_pos c] at h2
      exact ⟨eD4, _, by omega, as4, s4, ds, rfl, hl, by omega, st24, mD4, rl4, c, (rs.mono st3).mono st4, h2⟩
     ·have e : chk p s4 (compF g ft fe ρ0 p (p.1.drop (i + 1)) s4) = .bad := if_neg c
      rw [e] at h2; exact h2.elim
    | true =>
     rw [if_pos rfl] at h2 ⊢
     refine ⟨as4, ρ3, s4, rl4, en3.mono st4, ?_⟩
     cases qe : fe ρ3 s4 with
     | bad => rw [qe] at h2; exact h2.elim
     | ok x5 s5 =>
      rw [qe] at h2
      intro v5 as5 H5 st5 rl5 r5
      rw [R.bind_ok] at h2
      have mD5 : D ∈ as5.hd := st5.hk D mD4
      have eD5 : H5 D = some (.lst ys) := st5.hh D mD4 _ eD4
      have st25 := st24.trans st5
      by_cases c : SrcOk p s5
      ·rw [chk_pos c] at h2
       have cg : Chg H5 D (.lst (ys ++ [v5])) (upd H5 D (.lst (ys ++ [v5]))) := ⟨rfl⟩
       have s05 := step0_chg (.inr mD5) cg
       refine ⟨eD5, by omega, _, by omega, as5, s5, ds ++ [x5], rfl, hl, by simp; omega, step_own st25 hD nh mD5 cg, mD5, rl5.chgH mD5 cg, c, ((((rs.mono st3).mono st4).mono st5).append (.cons r5 .nil)).mono0 s05, ?_⟩
       cases qc : compF g ft fe ρ0 p (p.1.drop (i + 1)) s5 with
       | bad => rw [qc] at h2; exact h2.elim
       | ok xs s6 =>
        rw [qc] at h2
        show Dn K (rD K) as H (newL m ((ds ++ [x5]) ++ xs) s6) Q
        rw [List.append_assoc]
        exact h2
      ·have e : chk p s5 ((compF g ft fe ρ0 p (p.1.drop (i + 1)) s5).bind fun xs s4 => .ok (x5 :: xs) s4) = .bad := if_neg c
       rw [e] at h2; exact h2.elim
 ·refine .inl ⟨tn.1 (Nat.le_of_not_lt hl), ?_⟩
  rw [List.drop_eq_nil_of_le (Nat.le_of_not_lt hl)] at h2
  replace h2 : Dn K (rD K) as H (newL m (ds ++ []) s2) Q := h2
  rw [List.append_nil] at h2
  unfold newL at h2
  cases m with
  | true =>
   rw [if_pos rfl] at h2
   refine h2 (.ref D) _ H' (step_end2 st2 nh mD2) (rl2.take mD2 ⟨ys, hDi, rs.mono0 (step_take mD2)⟩) (.ref (by simp [rl2.len]) fun q e => ?_)
   rw [← rl2.len] at e
   simp at e
   exact e.symm
  | false =>
   rw [if_neg Bool.false_ne_true] at h2
   cases q : pures ds with
   | none => rw [q] at h2; exact h2.elim
   | some zs =>
    rw [q] at h2
    have e := pures_eq q
    subst e
    have h2 : Dn K (rD K) as H (R.ok (.lst zs) s2) Q := h2
    refine h2 (.ref D) _ H' (step_end st2 nh step_show) rl2.show (.da (.lst (fun z => ?_) hDi (rs.td.mono0 step_show)))
    rcases z with z | z
    ·exact rl2.hx D mD2 z
    ·exact absurd rfl (of_decide_eq_true (List.mem_filter.mp z).2)
end
end PF
namespace PF
open PySem PySem.Spec
open L2
open PyProof.Rows (envOfC)
section
variable {X : Cx} {own caps : List Str} {js : List Nat} {scope : Scope} {tg iter elt a : Expr} {ifs : List Expr} {fi : FI} {g : Tg} {ft : FT} {fe fa : FE} {pos : Pos}
theorem ref_lc {K : PySem.W.Frag} {wi : TI} {k : Nat} {m : Bool} (ri : RefI K wi fi) (hl : tgLt k g = true) : RefE K (tLc js k wi (gOf K g) (tOfT K ft) (tOf K fe)) (fLc m js k fi g ft fe) := by
 intro as σ H ρ s Q rl en h
 refine ri as σ H ρ s _ rl en (Dn.bind h fun p s1 as1 H1 J st1 rl1 r1 h1 => ?_)
 split at h1
 ·rename_i hz
  obtain ⟨so, h1⟩ := Dn.chk h1
  exact lcB hl hz rl1 r1 so (fun vs hv => ((en.mono st1).caps js).own hv) h1
 ·exact h1.elim
theorem re_lc (m : Bool) (hcalm : X.calm = true) (hkind : scope.kind = .function) (hnames : (scope.names.all fun p => !(p.2 == .local) || (scope.names.lookup p.1 == some .local)) = true) (hcell : (scope.names.any fun p => p.2 == .cell) = false)
  (hk : (scope.names.all fun p => !(p.2 == .free) || (X.env.kindOf p.1 == some .cell || X.env.kindOf p.1 == some .free)) = true)
  (hcap : Caps X scope caps js) (hl : tgLt own.length g = true) (hi : RI X tg iter fi) (hg : ∀ C fp s H, RG (cxLc X own caps scope C fp s H) tg g) (ht : ∀ C fp s H, RIfs (cxLc X own caps scope C fp s H) ifs ft) (he : ∀ C fp s H, RE (cxLc X own caps scope C fp s H) elt fe)
  (hs : ∀ x, foldedSetIterable iter X.env x = pure x := by intro _; rfl) : RE X (.ListComp elt [⟨tg, iter, ifs, 0⟩] scope pos) (fLc m js own.length fi g ft fe) := by
 obtain ⟨wi, pi, ri⟩ := hi.ex
 exact ⟨_, pe_lc hcalm hkind hnames hcell hk hcap pi (fun C fp s H => (hg C fp s H).pg) (fun C fp s H => (ht C fp s H).run) (fun C fp s H => (he C fp s H).pe) hs, ref_lc ri hl⟩
theorem rs_setLc (m : Bool) {i : Nat} {y : Str} {py : Pos} {spos : Pos} (hsw : swapsWith (.ListComp elt [⟨tg, iter, ifs, 0⟩] scope pos) (some (.Name y py)) spos.line X.env = pure true) (hN : X.N.Nodup) (hy : X.N[i]? = some y) (hyl : X.env.scope.names.lookup y = some .local)
  (hcalm : X.calm = true) (hkind : scope.kind = .function) (hnames : (scope.names.all fun p => !(p.2 == .local) || (scope.names.lookup p.1 == some .local)) = true) (hcell : (scope.names.any fun p => p.2 == .cell) = false)
  (hk : (scope.names.all fun p => !(p.2 == .free) || (X.env.kindOf p.1 == some .cell || X.env.kindOf p.1 == some .free)) = true)
  (hcap : Caps X scope caps js) (hl : tgLt own.length g = true) (hi : RI X tg iter fi) (hg : ∀ C fp s H, RG (cxLc X own caps scope C fp s H) tg g) (ht : ∀ C fp s H, RIfs (cxLc X own caps scope C fp s H) ifs ft) (he : ∀ C fp s H, RE (cxLc X own caps scope C fp s H) elt fe)
  (hs : ∀ x, foldedSetIterable iter X.env x = pure x := by intro _; rfl) : RS X (.Assign [.Name y py] (.ListComp elt [⟨tg, iter, ifs, 0⟩] scope pos) spos) (fSet i (fLc m js own.length fi g ft fe)) := by
 obtain ⟨wi, pi, ri⟩ := hi.ex
 refine ⟨_, ps_setLc (own := own) (te := tOf X.K fe) (tt := tOfT X.K ft) (g := gOf X.K g) hsw hN hy hyl hcalm hkind hnames hcell hk hcap pi (fun C fp s H => (hg C fp s H).pg) (fun C fp s H => (ht C fp s H).run) (fun C fp s H => (he C fp s H).pe) hs, fun as σ H ρ s D rl en h => ?_⟩
 exact ref_lc (m := m) ri hl as σ H ρ s _ rl en (Dn.bind h fun d s1 as1 H1 v st1 rl1 r1 h1 => Dn.now (b := FV.nx (σ.set i (some v))) h1 rl1 (.nx ((en.mono st1).set i r1)))
def gFrz (d : D) (s : S) : R D := match d with
 | .ref n => match s[n]? with
  | some (.lst ds) => match pures ds with
   | some xs => .ok (.lst xs) (s.set n .gone)
   | none => .bad
  | _ => .bad
 | d => .ok d s
def fFrz (f : FE) : FE := fun ρ s => (f ρ s).bind gFrz
theorem frz_ok {K : PySem.W.Frag} {as : As} {H : Hp} {s : S} {d : D} {v : V} {Q : VK} (rl : Rel K as H s) (r : RD K as H v d) (h : Dn K (rD K) as H (gFrz d s) Q) : Q v H := by
 cases r with
 | @ref p n l hr =>
  have h1 : Dn K (rD K) as H (match s[n]? with | some (O.lst ds) => (match pures ds with | some xs => R.ok (D.lst xs) (s.set n .gone) | none => .bad) | _ => R.bad) Q := h
  split at h1
  ·rename_i ds e
   split at h1
   ·rename_i xs q
    obtain ⟨ha, vs, hv, rs⟩ := ref_list rl hr e
    have e2 := pures_eq q
    subst e2
    refine h1 (.ref p) (as.cut n) H (step_frz n) rl.frz (.da (.lst ?_ hv (rs.td.mono (step_frz n))))
    rintro (z | z)
    ·obtain ⟨i, hi⟩ := mem_as.mp z
     have hi' := cut_ix hi
     have : n = i := rl.nd n i p ha hi'
     subst this
     rw [List.getElem?_set] at hi
     simp at hi
    ·exact rl.hx p z (mem_as.mpr ⟨n, ha⟩)
   ·exact h1.elim
  ·exact h1.elim
 | da t => exact Dn.now (Q := Q) h rl (.da t)
 | ty n => exact Dn.now (Q := Q) h rl (.ty n)
 | adr a => exact Dn.now (Q := Q) h rl (.adr a)
 | con q r => exact Dn.now (Q := Q) h rl (.con q r)
 | frz q r => exact Dn.now (Q := Q) h rl (.frz q r)
theorem re_frz (h : RE X a fa) : RE X a (fFrz fa) := by
 obtain ⟨t, p, r⟩ := h.ex
 refine ⟨_, p, fun as σ H ρ s Q rl en h => ?_⟩
 exact r as σ H ρ s _ rl en (Dn.bind h fun d s1 as1 H1 v st1 rl1 r1 h1 => frz_ok rl1 r1 h1)
end
abbrev FF := List D -> S -> R D
def spF (K : PySem.W.Frag) (n : Nat) (F : FF) : Sp := fun vs H Q _ => vs.length = n /\ ∃ as ds s, Rel K as H s /\ RDs K as H vs ds /\ Dn K (rD K) as H (F ds s) Q
structure CalF (P : Program) (w : World) (K : PySem.W.Frag) (mg : Str -> Option Value) (base : Heap) (x : Str) (k n : Nat) (F : FF) : Prop where
 cal : Cal P w K mg base x k (spF K n F)
def fCall (n : Nat) (F : FF) (f : FA) : FE := fun ρ s => (f ρ s).bind fun ds s1 => if ds.length = n then F ds s1 else .bad
section
variable {X : Cx} {x : Str} {k n : Nat} {F : FF} {p pos : Pos} {e : Expr} {es : List Expr} {f : FA}
theorem re_c (c : CalF X.prog X.w X.K X.mg X.base x k n F) (hr : Room k X.A) (ha : RA X (e :: es) f) (hg : Gl X x := by rfl) (hdb : (x == ("__debug__" : Str)) = false := by decide)
  (he : starEach (e :: es) X.env = (false, eval e X.env) :: starEach es X.env := by rfl) (hpl : (backTo pos (starEach es X.env)).any (·.1) = false := by rfl) : RE X (.Call (.Name x p) (e :: es) [] pos) (fCall n F f) := by
 obtain ⟨t, p, r⟩ := ha.ex
 refine ⟨_, pe_c c.cal hr p hg hdb he hpl, fun as σ H ρ s Q rl en h => ?_⟩
 refine r as σ H ρ s _ rl en (Dn.bind h fun ds s1 as1 H1 vs st1 rl1 r1 h1 => ?_)
 split at h1
 ·rename_i hn
  refine ⟨by rw [List.append_nil, r1.length]; exact hn, as1, ds, s1, rl1, ?_, h1⟩
  rw [List.append_nil]; exact r1
 ·exact h1.elim
end
def bodyF (m : Nat) (fb : FS) : FF := fun ds s => (fb (ds.map some ++ List.replicate (m - ds.length) none) s).bind fun fl s1 => match fl with
 | .rt d => .ok d s1
 | .nx _ => .ok .non s1
 | _ => .bad
theorem start_envs {K : PySem.W.Frag} {as : As} {H : Hp} {N : List Str} {vs : List V} {ds : List D} (r : RDs K as H vs ds) : Envs K as H (ds.map some ++ List.replicate (N.length - ds.length) none) (L2.start N vs) := by
 unfold L2.start
 refine ⟨by simp [r.length], fun i d h => ?_⟩
 by_cases z : i < ds.length
 ·rw [List.getElem?_append_left (by simpa using z), List.getElem?_map] at h
  cases q : ds[i]? with
  | none => rw [q] at h; cases h
  | some x =>
   rw [q] at h
   cases h
   obtain ⟨v, hv, rv⟩ := r.get q
   exact ⟨v, by rw [List.getElem?_append_left (by rw [List.length_map, r.length]; exact z), List.getElem?_map, hv]; rfl, rv⟩
 ·rw [List.getElem?_append_right (by simpa using Nat.le_of_not_lt z), List.getElem?_replicate] at h
  split at h
  ·cases h
  ·cases h
section
variable {P : Program} {w : World} {K : PySem.W.Frag} {mg : Str -> Option Value} {base : Heap} {x : Str} {st : Stmt} {N ps : List Str} {k : Nat}
theorem calF (h : Has K mg x st ps) (S : FnScope N ps (defScope st)) {m n : Nat} {fb : FS} (hm : N.length = m) (hn : ps.length = n)
  (hbody : ∀ (f : Addr) (cdv : Value) (A : Around) (outer : List Env) (s : Shared) (H : Hp) (E : XK), Room k (A.deeper (envOfC x (defScope st) s.heap.objs.size f cdv)) ->
   RSs (cxOf CX0 P w K mg base N x (defScope st) f cdv A outer s H E).nox (defBody st) fb) : CalF P w K mg base x (k + 1) n (bodyF m fb) := by
 refine ⟨h.cal S (fun vs H Q E h => by rw [hn]; exact h.1) fun f cdv A outer s H vs Q E hr h => ?_⟩
 obtain ⟨hv, as, ds, s', rl, rs, h⟩ := h
 obtain ⟨t, p, r⟩ := (hbody f cdv A outer s H E hr).ex
 refine ⟨t, p, ?_⟩
 have en : Envs K as H (ds.map some ++ List.replicate (m - ds.length) none) (L2.start N vs) := by rw [← hm]; exact start_envs rs
 refine r as _ H _ s' _ rl en (Dn.bind h fun fl s1 as1 H1 fv st1 rl1 r1 h1 => ?_)
 cases r1 with
 | nx e => exact Dn.now (Q := Q) h1 rl1 (.da .non)
 | rt e => exact Dn.now (Q := Q) h1 rl1 e
 | bk e => exact h1.elim
 | ct e => exact h1.elim
end
def spLaw (K : PySem.W.Frag) : Sp := fun vs H Q _ => ∃ (a : Addr) (ns : List Int), vs = [.ref a] /\ SqL K H a (ns.map V.int) /\ ns.length <= 63 /\ ∀ H', Q (.bl true) H'
theorem TDs.ints {as : As} {H : Hp} : ∀ ns : List Int, TDs as H (ns.map V.int) (ns.map PyData.int)
 | [] => .nil
 | n :: r => .cons (.int n) (TDs.ints r)
end PF
namespace PF
open PySem PySem.Spec
open L2
section
variable {X : Cx} {pins : List (Addr × Obj)} {σ : St} {H : Hp} {s : Shared} {as : As}
mutual
theorem TD.reads (I : Inv X pins σ H s) : ∀ {v : V} {d : PyData} {u : Value}, TD as H v d -> RelV v u -> ∃ bs, Reads s.heap u d bs
 | _, _, u, .non, r => by cases (show u = Value.none from r); exact ⟨_, .none⟩
 | _, _, u, .bl b, r => by cases (show u = Value.bool b from r); exact ⟨_, .bool b⟩
 | _, _, u, .int i, r => by obtain ⟨t, e⟩ := (show ∃ t, u = Value.int i t from r); subst e; exact ⟨_, .int i t⟩
 | _, _, u, .str x, r => by obtain ⟨t, e⟩ := (show ∃ t, u = Value.str x t from r); subst e; exact ⟨_, .str x t⟩
 | _, _, u, .tup (p := a) (xs := xs) n e q, r => by
  cases (show u = Value.ref a from r)
  obtain ⟨z, its, rv, o, h1, h2, k, h3⟩ := (show ObjOk X.prog X.w H s.heap a (.tup xs) from I.hok a _ e)
  obtain ⟨bs, ra⟩ := TDs.reads I q rv
  exact ⟨_, .tuple h1 h2 h3 ra⟩
 | _, _, u, .lst (p := a) (xs := xs) n e q, r => by
  cases (show u = Value.ref a from r)
  obtain ⟨z, its, k, rv, h1⟩ := (show ObjOk X.prog X.w H s.heap a (.lst xs) from I.hok a _ e)
  obtain ⟨bs, ra⟩ := TDs.reads I q rv
  exact ⟨_, .list h1 rfl rfl ra⟩
theorem TDs.reads (I : Inv X pins σ H s) : ∀ {vs : List V} {ds : List PyData} {us : List Value}, TDs as H vs ds -> Vals vs us -> ∃ bs, ReadsAll s.heap us ds bs
 | _, _, _, .nil, r => by cases r; exact ⟨_, .nil⟩
 | _, _, _, .cons a b, r => by
  cases r with
  | cons r1 r2 =>
   obtain ⟨as, h1⟩ := TD.reads I a r1
   obtain ⟨bs, h2⟩ := TDs.reads I b r2
   exact ⟨_, .cons h1 h2⟩
end
def toP (s : S) : D -> Option PyData
 | .da d => some d
 | .con ds => some (.tuple ds)
 | .frz ds => some (.list ds)
 | .ref n => match s[n]? with
  | some (.lst ds) => (pures ds).map PyData.list
  | _ => none
 | _ => none
def toL (s : S) : D -> Option (List D)
 | .lst ds => some (ds.map D.da)
 | .ref n => match s[n]? with
  | some (.lst ds) => some ds
  | _ => none
 | _ => none
theorem toL_ok {K : PySem.W.Frag} {st : S} {v : V} {d : D} {ds : List D} (rl : Rel K as H st) (r : RD K as H v d) (h : toL st d = some ds) : ∃ p xs, v = .ref p /\ H p = some (.lst xs) /\ RDs K as H xs ds := by
 cases r with
 | da t =>
  cases t with
  | lst n e q => cases h; exact ⟨_, _, rfl, e, q.rd⟩
  | _ => cases h
 | @ref p n l hr =>
  have h : (match st[n]? with | some (O.lst ds) => some ds | _ => none) = some ds := h
  split at h
  ·rename_i ys e
   cases h
   obtain ⟨_, xs, hx, rs⟩ := ref_list rl hr e
   exact ⟨p, xs, rfl, hx, rs⟩
  ·cases h
 | _ => cases h
theorem RD.reads {st : S} {v : V} {d : D} {pd : PyData} {u : Value} (I : Inv X pins σ H s) (rl : Rel X.K as H st) (r : RD X.K as H v d) (h : toP st d = some pd) (ru : RelV v u) : ∃ bs, Reads s.heap u pd bs := by
 cases r with
 | da t => cases h; exact t.reads I ru
 | con q rs =>
  cases h
  obtain ⟨its, rv, ⟨o, h1, h2, k, h3⟩, z⟩ := I.tuple (q H)
  obtain ⟨bs, ra⟩ := rs.reads I rv
  cases ru
  exact ⟨_, .tuple h1 h2 h3 ra⟩
 | frz q rs =>
  cases h
  obtain ⟨its, rv, ⟨o, k, h1, h2, h3, h4⟩, z⟩ := I.list (q as H (Step.refl _ _).toStep0)
  obtain ⟨bs, ra⟩ := rs.reads I rv
  cases ru
  exact ⟨_, .list h1 h2 h4 ra⟩
 | @ref p n l hr =>
  have h : (match st[n]? with | some (O.lst ds) => (pures ds).map PyData.list | _ => none) = some pd := h
  split at h
  ·rename_i ds e
   cases q : pures ds with
   | none => rw [q] at h; cases h
   | some xs =>
    rw [q] at h
    cases h
    have e2 := pures_eq q
    subst e2
    obtain ⟨_, vs, hv, rs⟩ := ref_list rl hr e
    obtain ⟨z, its, k, rv, h1⟩ := (show ObjOk X.prog X.w H s.heap p (.lst vs) from I.hok p _ hv)
    obtain ⟨bs, ra⟩ := rs.td.reads I rv
    cases ru
    exact ⟨_, .list h1 rfl rfl ra⟩
  ·cases h
 | _ => cases h
end
def okD (d : PyData) : Bool := d.canLay0 && decide (d.depth <= 64)
section
variable {X : Cx}
theorem op2_of {f : Value -> Value -> Sem Value} {g : D -> D -> S -> R D} (h : ∀ (pins : List (Addr × Obj)) (sh : Shared) (σ : St) (H : Hp) (as : As) (s : S) (x y : V) (dx dy : D) (v u : Value) (Q : VK), Inv X pins σ H sh -> Rel X.K as H s -> RD X.K as H x dx -> RD X.K as H y dy -> RelV x v -> RelV y u ->
  Dn X.K (rD X.K) as H (g dx dy s) Q -> wpAny (model X.prog X.w) X.A (f v u) (EP X pins σ Q) X.xe sh) : Op2 X f g :=
 ⟨fun x y H Q => ∃ as s dx dy, Rel X.K as H s /\ RD X.K as H x dx /\ RD X.K as H y dy /\ Dn X.K (rD X.K) as H (g dx dy s) Q,
  fun pins sh σ H x y v u Q I rx ry ⟨as, s, dx, dy, rl, r1, r2, q⟩ => h pins sh σ H as s x y dx dy v u Q I rl r1 r2 rx ry q,
  fun as H s x y dx dy Q rl r1 r2 q => ⟨as, s, dx, dy, rl, r1, r2, q⟩⟩
def gEqD (dx dy : D) (s : S) : R D := match toP s dx, toP s dy with
 | some a, some b => if okD a = true /\ okD b = true then .ok (.bl (PyData.eqv a b)) s else .bad
 | _, _ => .bad
def gNeD (dx dy : D) (s : S) : R D := match toP s dx, toP s dy with
 | some a, some b => if okD a = true /\ okD b = true then .ok (.bl (!PyData.eqv a b)) s else .bad
 | _, _ => .bad
def gEq (dx dy : D) (s : S) : R D := match dx, dy with
 | .str x, .str y => .ok (.bl (decide (x = y))) s
 | dx, dy => gEqD dx dy s
def gNe (dx dy : D) (s : S) : R D := match dx, dy with
 | .str x, .str y => .ok (.bl (!decide (x = y))) s
 | dx, dy => gNeD dx dy s
theorem okD_lay {d : PyData} (h : okD d = true) : d.canLay0 = true /\ d.depth <= 64 := by
 unfold okD at h
 rw [Bool.and_eq_true] at h
 exact ⟨h.1, of_decide_eq_true h.2⟩
theorem o_eqD (hu : X.A.units + 64 < cLine) : Op2 X (compareOp .Eq) gEqD := op2_of fun pins sh σ H as s x y dx dy v u Q I rl r1 r2 rx ry h => by
 unfold gEqD at h
 split at h
 ·rename_i a b ea eb
  split at h
  ·rename_i hok
   obtain ⟨bs1, q1⟩ := r1.reads I rl ea rx
   obtain ⟨bs2, q2⟩ := r2.reads I rl eb ry
   obtain ⟨c1, d1⟩ := okD_lay hok.1
   obtain ⟨c2, d2⟩ := okD_lay hok.2
   exact SeqAt.compareEq_reads q1 q2 c1 c2 (by omega) ⟨.bl _, H, I, rfl, Dn.now (Q := Q) h rl (.da (.bl _))⟩
  ·exact h.elim
 ·exact h.elim
theorem o_neD (hu : X.A.units + 64 < cLine) : Op2 X (compareOp .NotEq) gNeD := op2_of fun pins sh σ H as s x y dx dy v u Q I rl r1 r2 rx ry h => by
 unfold gNeD at h
 split at h
 ·rename_i a b ea eb
  split at h
  ·rename_i hok
   obtain ⟨bs1, q1⟩ := r1.reads I rl ea rx
   obtain ⟨bs2, q2⟩ := r2.reads I rl eb ry
   obtain ⟨c1, d1⟩ := okD_lay hok.1
   obtain ⟨c2, d2⟩ := okD_lay hok.2
   exact SeqAt.compareNe_reads q1 q2 c1 c2 (by omega) ⟨.bl _, H, I, rfl, Dn.now (Q := Q) h rl (.da (.bl _))⟩
  ·exact h.elim
 ·exact h.elim
theorem str_eqV (x y : Str) : decide (V.str x = V.str y) = decide (x = y) := by
 rw [Bool.eq_iff_iff, decide_eq_true_eq, decide_eq_true_eq, V.str.injEq]
theorem str_inv' {K : PySem.W.Frag} {as : As} {H : Hp} {v : V} {x : Str} (h : RD K as H v (.str x)) : v = .str x := by
 cases h with | da t => cases t; rfl
theorem o_eq (hu : X.A.units + 64 < cLine) : Op2 X (compareOp .Eq) gEq := op2_of fun pins sh σ H as s x y dx dy v u Q I rl r1 r2 rx ry h => by
 unfold gEq at h
 split at h
 ·cases str_inv' r1; cases str_inv' r2
  exact op_eq pins sh σ H _ _ v u Q I rx ry ⟨rfl, by rw [str_eqV]; exact Dn.now (Q := Q) h rl (.da (.bl _))⟩
 ·obtain ⟨r, ho, hr⟩ := (o_eqD (X := X) hu).ex
  exact ho pins sh σ H x y v u Q I rx ry (hr as H s x y _ _ Q rl r1 r2 h)
theorem o_ne (hu : X.A.units + 64 < cLine) : Op2 X (compareOp .NotEq) gNe := op2_of fun pins sh σ H as s x y dx dy v u Q I rl r1 r2 rx ry h => by
 unfold gNe at h
 split at h
 ·cases str_inv' r1; cases str_inv' r2
  exact op_ne pins sh σ H _ _ v u Q I rx ry ⟨rfl, by rw [str_eqV]; exact Dn.now (Q := Q) h rl (.da (.bl _))⟩
 ·obtain ⟨r, ho, hr⟩ := (o_neD (X := X) hu).ex
  exact ho pins sh σ H x y v u Q I rx ry (hr as H s x y _ _ Q rl r1 r2 h)
def itemsP : PyData -> Option (List PyData)
 | .list ds => some ds
 | .tuple ds => some ds
 | _ => none
def nb (n b : Bool) : Bool := match n with
 | true => !b
 | false => b
def gInS (neg : Bool) (dx dy : D) (s : S) : R D := match toP s dx, (toP s dy).bind itemsP with
 | some a, some ds => if okD a = true /\ ds.all okD = true then .ok (.bl (nb neg (ds.any fun d => PyData.eqv d a))) s else .bad
 | _, _ => .bad
def gInB (neg : Bool) (dx dy : D) (s : S) : R D := match dx, dy with
 | .str a, .str b => .ok (.bl (nb neg (!(Builtin.Str.occurrences b a 0 b.length 1).isEmpty))) s
 | dx, dy => gInS neg dx dy s
open Classical in
theorem eqAts {sh : Shared} {A : Around} {v : Value} {a : PyData} {bs : List Addr} (ra : Reads sh.heap v a bs) (ha : okD a = true) (hu : A.units + 64 < cLine) {us : List Value} {ds : List PyData} {cs : List Addr} (h : ReadsAll sh.heap us ds cs) (hd : ds.all okD = true) :
  ∃ e : Value -> Bool, (∀ y ∈ us, SeqAt.EqAt A sh y v (e y)) /\ us.any e = ds.any fun d => PyData.eqv d a := by
 refine ⟨fun y => decide (∃ d cs, Reads sh.heap y d cs /\ PyData.eqv d a = true), ?_⟩
 have one : ∀ {y : Value} {d : PyData} {cs : List Addr}, Reads sh.heap y d cs -> decide (∃ d cs, Reads sh.heap y d cs /\ PyData.eqv d a = true) = PyData.eqv d a := fun {y d cs} r => by
  (rw [Bool.eq_iff_iff, decide_eq_true_eq])
  constructor
  ·rintro ⟨d', cs', r', e⟩
   obtain ⟨q, _⟩ := PyProof.Rows.reads_det (fun _ _ e _ => e) r r'
   subst q; exact e
  ·exact fun e => ⟨d, cs, r, e⟩
 induction us generalizing ds cs with
 | nil =>
  cases h
  exact ⟨fun _ z => (by cases z), rfl⟩
 | cons u us ih =>
  cases h with
  | cons r rs =>
   rw [List.all_cons, Bool.and_eq_true] at hd
   obtain ⟨i1, i2⟩ := ih rs hd.2
   obtain ⟨l1, m1⟩ := okD_lay hd.1
   obtain ⟨l2, m2⟩ := okD_lay ha
   refine ⟨fun y hy => ?_, ?_⟩
   ·rcases List.mem_cons.mp hy with z | z
    ·subst z
     show SeqAt.EqAt A sh y v (decide (∃ d cs, Reads sh.heap y d cs /\ PyData.eqv d a = true))
     rw [one r]
     exact SeqAt.eqAt_reads _ _ A sh _ _ _ _ r ra l1 l2 (by omega)
    ·exact i1 y z
   ·rw [List.any_cons, List.any_cons, i2, one r]
theorem in1_units (A : Around) : A.in1.units <= A.units + 1 := by
 show (A.in1).units <= A.units + 1
 first | exact Nat.le_refl _ | (unfold Around.in1; simp) | simp [Around.in1]
theorem inS_ok (neg : Bool) {op : CmpOp} (hop : (neg = false /\ op = .In) \/ (neg = true /\ op = .NotIn)) (hu : X.A.units + 65 < cLine) : Op2 X (compareOp op) (gInS neg) := op2_of fun pins sh σ H as s x y dx dy v u Q I rl r1 r2 rx ry h => by
 unfold gInS at h
 split at h
 ·rename_i a ds ea ed
  split at h
  ·rename_i hok
   obtain ⟨bs1, q1⟩ := r1.reads I rl ea rx
   cases e2 : toP s dy with
   | none => rw [e2] at ed; cases ed
   | some pd =>
    rw [e2] at ed
    have ed : itemsP pd = some ds := ed
    obtain ⟨bs2, q2⟩ := r2.reads I rl e2 ry
    have hin := in1_units X.A
    cases q2 with
    | list k1 k2 k3 k4 =>
     cases ed
     obtain ⟨e, he, ha⟩ := eqAts (A := X.A.in1) q1 hok.1 (by omega) k4 hok.2
     rcases hop with ⟨rfl, rfl⟩ | ⟨rfl, rfl⟩
     ·refine SeqAt.in_listAt e ⟨_, k1, k2, _, k3⟩ (fun y hy => he y (by simpa using hy)) ⟨.bl _, H, I, rfl, ?_⟩
      rw [← Array.any_toList, ha]
      exact Dn.now (Q := Q) h rl (.da (.bl _))
     ·refine SeqAt.notIn_listAt e ⟨_, k1, k2, _, k3⟩ (fun y hy => he y (by simpa using hy)) ⟨.bl _, H, I, rfl, ?_⟩
      rw [← Array.any_toList, ha]
      exact Dn.now (Q := Q) h rl (.da (.bl _))
    | tuple k1 k2 k3 k4 =>
     cases ed
     obtain ⟨e, he, ha⟩ := eqAts (A := X.A.in1) q1 hok.1 (by omega) k4 hok.2
     rcases hop with ⟨rfl, rfl⟩ | ⟨rfl, rfl⟩
     ·refine SeqAt.in_tupleAt e ⟨_, k1, k2, _, k3⟩ (fun y hy => he y (by simpa using hy)) ⟨.bl _, H, I, rfl, ?_⟩
      rw [← Array.any_toList, ha]
      exact Dn.now (Q := Q) h rl (.da (.bl _))
     ·refine SeqAt.notIn_tupleAt e ⟨_, k1, k2, _, k3⟩ (fun y hy => he y (by simpa using hy)) ⟨.bl _, H, I, rfl, ?_⟩
      rw [← Array.any_toList, ha]
      exact Dn.now (Q := Q) h rl (.da (.bl _))
    | _ => cases ed
  ·exact h.elim
 ·exact h.elim
theorem in_ok (neg : Bool) {op : CmpOp} (hop : (neg = false /\ op = .In) \/ (neg = true /\ op = .NotIn)) (hu : X.A.units + 65 < cLine) : Op2 X (compareOp op) (gInB neg) := op2_of fun pins sh σ H as s x y dx dy v u Q I rl r1 r2 rx ry h => by
 unfold gInB at h
 split at h
 ·rename_i a b
  cases r2.str_inv
  cases r1.str_inv
  rcases hop with ⟨rfl, rfl⟩ | ⟨rfl, rfl⟩
  ·exact op_in_str pins sh σ H _ _ v u Q I rx ry ⟨a, b, rfl, rfl, Dn.now (Q := Q) h rl (.da (.bl _))⟩
  ·exact op_notin_str pins sh σ H _ _ v u Q I rx ry ⟨a, b, rfl, rfl, Dn.now (Q := Q) h rl (.da (.bl _))⟩
 ·obtain ⟨r, ho, hr⟩ := (inS_ok (X := X) neg hop hu).ex
  exact ho pins sh σ H x y v u Q I rx ry (hr as H s x y _ _ Q rl r1 r2 h)
abbrev gIn := gInB false
abbrev gNotIn := gInB true
theorem o_in (hu : X.A.units + 65 < cLine) : Op2 X (compareOp .In) gIn := in_ok false (.inl ⟨rfl, rfl⟩) hu
theorem o_notin (hu : X.A.units + 65 < cLine) : Op2 X (compareOp .NotIn) gNotIn := in_ok true (.inr ⟨rfl, rfl⟩) hu
def gAdd (m : Bool) (dx dy : D) (s : S) : R D := match dx, dy with
 | .int i, .int j => .ok (.int (i + j)) s
 | .bl b, .int j => .ok (.int (b01 b + j)) s
 | .str a, .str b => if a.length + b.length <= sizeLine then .ok (.str (a ++ b)) s else .bad
 | .tup xs, .tup ys => if xs.length + ys.length <= sizeLine then .ok (.tup (xs ++ ys)) s else .bad
 | dx, dy => match toL s dx, toL s dy with
  | some xs, some ys => if xs.length + ys.length <= sizeLine then newL m (xs ++ ys) s else .bad
  | _, _ => .bad
theorem RD.tup_inv {K : PySem.W.Frag} {as : As} {H : Hp} {v : V} {ds : List PyData} (h : RD K as H v (.tup ds)) : ∃ p xs, v = .ref p /\ ¬ as.has p /\ H p = some (.tup xs) /\ TDs as H xs ds := by
 cases h with | da t => cases t with | tup n e r => exact ⟨_, _, rfl, n, e, r⟩
theorem RD.lst_inv {K : PySem.W.Frag} {as : As} {H : Hp} {v : V} {ds : List PyData} (h : RD K as H v (.lst ds)) : ∃ p xs, v = .ref p /\ ¬ as.has p /\ H p = some (.lst xs) /\ TDs as H xs ds := by
 cases h with | da t => cases t with | lst n e r => exact ⟨_, _, rfl, n, e, r⟩
theorem o_add (m : Bool) : Op2 X (binaryOp .Add) (gAdd m) := op2_of fun pins sh σ H as s x y dx dy v u Q I rl r1 r2 rx ry h => by
 unfold gAdd at h
 split at h
 ·rename_i i j
  cases r1.int_inv; cases r2.int_inv
  exact op_add pins sh σ H _ _ v u Q I rx ry ⟨i, j, rfl, rfl, Dn.now (Q := Q) h rl (.da (.int _))⟩
 ·rename_i b j
  cases r1.bl_inv; cases r2.int_inv
  exact op_addL pins sh σ H _ _ v u Q I rx ry ⟨b01 b, j, rfl, rfl, Dn.now (Q := Q) h rl (.da (.int _))⟩
 ·rename_i a b
  split at h
  ·rename_i hz
   cases r1.str_inv; cases r2.str_inv
   exact op_add_str pins sh σ H _ _ v u Q I rx ry ⟨a, b, rfl, rfl, hz, Dn.now (Q := Q) h rl (.da (.str _))⟩
  ·exact h.elim
 ·rename_i xs ys
  split at h
  ·rename_i hz
   obtain ⟨p, vs, rfl, n1, e1, t1⟩ := r1.tup_inv
   obtain ⟨q, ws, rfl, n2, e2, t2⟩ := r2.tup_inv
   refine op_catTA pins sh σ H _ _ v u Q I rx ry ⟨p, q, vs, ws, rfl, rfl, SqT.of e1, SqT.of e2, by rw [t1.length, t2.length]; exact hz, fun e => ?_, fun _ e => ?_, fun _ _ r H' n => ?_⟩
   ·subst e
    cases t1
    exact Dn.now (Q := Q) h rl (.da (.tup n2 e2 t2))
   ·subst e
    cases t2
    rw [List.append_nil] at h
    exact Dn.now (Q := Q) h rl (.da (.tup n1 e1 t1))
   ·exact h (.ref r) as H' (step_new n) (rl.new n) (.da (.tup (fun z => rl.has z n.no) n.at ((t1.append t2).mono (step_new n))))
  ·exact h.elim
 ·split at h
  ·rename_i xs ys e1 e2
   split at h
   ·rename_i hz
    obtain ⟨p, vs, rfl, h1, t1⟩ := toL_ok rl r1 e1
    obtain ⟨q, ws, rfl, h2, t2⟩ := toL_ok rl r2 e2
    exact op_catN pins sh σ H _ _ v u Q I rx ry ⟨p, q, vs, ws, rfl, rfl, h1, h2, by rw [t1.length, t2.length]; exact hz, fun r H' n => newL_ok h rl (t1.append t2) n⟩
   ·exact h.elim
  ·exact h.elim
def gSub (dx dy : D) (s : S) : R D := match dx, dy with
 | .int i, .int j => .ok (.int (i - j)) s
 | .bl b, .int j => .ok (.int (b01 b - j)) s
 | .int i, .bl b => .ok (.int (i - b01 b)) s
 | _, _ => .bad
instance (i j : Int) : Decidable (CMul i j) := by unfold CMul; infer_instance
instance (i j : Int) : Decidable (CDiv i j) := by unfold CDiv; infer_instance
instance (i j : Int) : Decidable (CPow i j) := by unfold CPow; infer_instance
def gI2 (C : Int -> Int -> Prop) [∀ i j, Decidable (C i j)] (f : Int -> Int -> Int) (dx dy : D) (s : S) : R D := match dx, dy with
 | .int i, .int j => if C i j then .ok (.int (f i j)) s else .bad
 | _, _ => .bad
theorem i2_ok {op : Operator} {C : Int -> Int -> Prop} [∀ i j, Decidable (C i j)] {f : Int -> Int -> Int} (o : OpR X (binaryOp op) (rI C fun i j => .int (f i j))) : Op2 X (binaryOp op) (gI2 C f) := op2_of fun pins sh σ H as s x y dx dy v u Q I rl r1 r2 rx ry h => by
 unfold gI2 at h
 split at h
 ·rename_i i j
  split at h
  ·rename_i hc
   cases r1.int_inv; cases r2.int_inv
   exact o pins sh σ H _ _ v u Q I rx ry ⟨i, j, rfl, rfl, hc, Dn.now (Q := Q) h rl (.da (.int _))⟩
  ·exact h.elim
 ·exact h.elim
def gMul : D -> D -> S -> R D := gI2 CMul fun i j => i * j
def gDiv : D -> D -> S -> R D := gI2 CDiv fun i j => i / j
def gMod : D -> D -> S -> R D := gI2 (fun _ j => 0 < j) fun i j => i % j
def gPow : D -> D -> S -> R D := gI2 CPow fun i j => i ^ j.toNat
theorem o_mul : Op2 X (binaryOp .Mult) gMul := i2_ok op_mul
theorem o_div : Op2 X (binaryOp .FloorDiv) gDiv := i2_ok op_fdiv
theorem o_mod : Op2 X (binaryOp .Mod) gMod := i2_ok op_mod
theorem o_pow : Op2 X (binaryOp .Pow) gPow := i2_ok op_pow
def gC2 (f : Int -> Int -> Bool) (dx dy : D) (s : S) : R D := match dx, dy with
 | .int i, .int j => .ok (.bl (f i j)) s
 | _, _ => .bad
theorem c2_ok {op : CmpOp} {f : Int -> Int -> Bool} (o : OpR X (compareOp op) (rI0 fun i j => .bl (f i j))) : Op2 X (compareOp op) (gC2 f) := op2_of fun pins sh σ H as s x y dx dy v u Q I rl r1 r2 rx ry h => by
 unfold gC2 at h
 split at h
 ·rename_i i j
  cases r1.int_inv; cases r2.int_inv
  exact o pins sh σ H _ _ v u Q I rx ry ⟨i, j, rfl, rfl, Dn.now (Q := Q) h rl (.da (.bl _))⟩
 ·exact h.elim
def gGt : D -> D -> S -> R D := gC2 fun i j => decide (j < i)
def gGe : D -> D -> S -> R D := gC2 fun i j => decide (j <= i)
def gLt (dx dy : D) (s : S) : R D := match dx, dy with
 | .int i, .int j => .ok (.bl (decide (i < j))) s
 | .str a, .str b => .ok (.bl (decide (a.cps.toList < b.cps.toList))) s
 | _, _ => .bad
theorem o_gt : Op2 X (compareOp .Gt) gGt := c2_ok op_gt
theorem o_ge : Op2 X (compareOp .GtE) gGe := c2_ok op_ge
theorem o_lt : Op2 X (compareOp .Lt) gLt := op2_of fun pins sh σ H as s x y dx dy v u Q I rl r1 r2 rx ry h => by
 unfold gLt at h
 split at h
 ·rename_i i j
  cases r1.int_inv; cases r2.int_inv
  exact op_lt pins sh σ H _ _ v u Q I rx ry ⟨i, j, rfl, rfl, Dn.now (Q := Q) h rl (.da (.bl _))⟩
 ·rename_i a b
  cases r1.str_inv; cases r2.str_inv
  exact op_lt_str pins sh σ H _ _ v u Q I rx ry ⟨a, b, rfl, rfl, Dn.now (Q := Q) h rl (.da (.bl _))⟩
 ·exact h.elim
theorem RD.non_inv {K : PySem.W.Frag} {as : As} {H : Hp} {v : V} (h : RD K as H v .non) : v = .non := by
 cases h with | da t => cases t; rfl
end
end PF
namespace PF
open PySem PySem.Spec
open L2
section
variable {X : Cx} {K : PySem.W.Frag} {as : As} {H : Hp}
def seqD (s : S) : D -> Option (List D)
 | .lst ds => some (ds.map D.da)
 | .tup ds => some (ds.map D.da)
 | .con ds => some (ds.map D.da)
 | .frz ds => some (ds.map D.da)
 | .ref n => match s[n]? with
  | some (.lst ds) => some ds
  | _ => none
 | _ => none
theorem seq_ok {s : S} {v : V} {d : D} {ds : List D} (rl : Rel K as H s) (r : RD K as H v d) (h : seqD s d = some ds) : ∃ p xs, v = .ref p /\ (SqL K H p xs \/ SqT K H p xs) /\ RDs K as H xs ds := by
 cases r with
 | da t =>
  cases t with
  | lst n e q => cases h; exact ⟨_, _, rfl, .inl (SqL.of e), q.rd⟩
  | tup n e q => cases h; exact ⟨_, _, rfl, .inr (SqT.of e), q.rd⟩
  | _ => cases h
 | con q r => cases h; exact ⟨_, _, rfl, .inr (q H), r.rd⟩
 | frz q r => cases h; exact ⟨_, _, rfl, .inl (q as H (Step.refl _ _).toStep0), r.rd⟩
 | @ref p n l hr =>
  have h : (match s[n]? with | some (O.lst ds) => some ds | _ => none) = some ds := h
  split at h
  ·rename_i ys e
   cases h
   obtain ⟨_, xs, hx, rs⟩ := ref_list rl hr e
   exact ⟨p, xs, rfl, .inl (SqL.of hx), rs⟩
  ·cases h
 | _ => cases h
theorem RDs.atI {xs : List V} {ds : List D} {i : Int} {d : D} (r : RDs K as H xs ds) (h : atI ds i = some d) : ∃ v, atI xs i = some v /\ RD K as H v d := by
 unfold L2.atI at h ⊢
 rw [r.length]
 cases q : ixN ds.length i with
 | none => rw [q] at h; cases h
 | some j =>
  rw [q] at h
  obtain ⟨v, hv, rv⟩ := r.get (show ds[j]? = some d from h)
  exact ⟨v, hv, rv⟩
def gIx (dx dy : D) (s : S) : R D := match dx, dy with
 | .str z, .int i => if z.length <= sizeLine then match atI z.cps.toList i with
   | some c => .ok (.str ⟨#[c]⟩) s
   | none => .bad
  else .bad
 | dx, .int i => match seqD s dx with
  | some ds => match atI ds i with
   | some d => .ok d s
   | none => .bad
  | none => .bad
 | _, _ => .bad
theorem ref_ix : Ref2 K (rIx K) gIx := by
 intro as H s x y dx dy Q rl r1 r2 h
 unfold gIx at h
 split at h
 ·rename_i z i
  cases r1.str_inv; cases r2.int_inv
  split at h
  ·rename_i hz
   split at h
   ·rename_i c e
    exact .inr (.inr ⟨z, i, c, rfl, rfl, hz, e, Dn.now (Q := Q) h rl (.da (.str _))⟩)
   ·exact h.elim
  ·exact h.elim
 ·rename_i i _
  cases r2.int_inv
  split at h
  ·rename_i ds e
   split at h
   ·rename_i d e2
    obtain ⟨p, xs, rfl, sq, rs⟩ := seq_ok rl r1 e
    obtain ⟨v, hv, rv⟩ := rs.atI e2
    rcases sq with sq | sq
    ·exact .inl ⟨p, xs, i, v, rfl, rfl, sq, hv, Dn.now (Q := Q) h rl rv⟩
    ·exact .inr (.inl ⟨p, xs, i, v, rfl, rfl, sq, hv, Dn.now (Q := Q) h rl rv⟩)
   ·exact h.elim
  ·exact h.elim
 ·exact h.elim
theorem re_ix {a b : Expr} {fa fb : FE} {pos : Pos} (ha : RE X a fa) (hb : RE X b fb) (hs : PlainIx b := by exact fun _ _ => rfl) : RE X (.Subscript a b pos) (fOp gIx fa fb) := by
 obtain ⟨ta, pa, ra⟩ := ha.ex
 obtain ⟨tb, pb, rb⟩ := hb.ex
 exact ⟨_, pe_ix ix_seq pa pb hs, ref_op ref_ix ra rb⟩
def cutL {α : Type} (xs : List α) (lo hi : Option Int) : List α := (xs.drop (HT.sIx xs.length 0 lo)).take (HT.sIx xs.length xs.length hi - HT.sIx xs.length 0 lo)
theorem RDs.cut {xs : List V} {ds : List D} (r : RDs K as H xs ds) (lo hi : Option Int) : RDs K as H (cutV xs lo hi) (cutL ds lo hi) := by
 unfold cutV cutL
 rw [r.length]
 exact (r.drop _).take _
theorem TDs.cut {xs : List V} {ds : List PyData} (r : TDs as H xs ds) (lo hi : Option Int) : TDs as H (cutV xs lo hi) (cutL ds lo hi) := by
 unfold cutV cutL
 rw [r.length]
 exact (r.drop _).take _
def cutS (z : Str) (lo hi : Option Int) : Str := if ((Builtin.Str.strSliceIndices lo hi 1 z.length).length == z.length) = true then z else ⟨((Builtin.Str.strSliceIndices lo hi 1 z.length).filterMap (z.cps[·]?)).toArray⟩
def rSlX : V -> Option Int -> Option Int -> Hp -> VK -> Prop := fun x lo hi H Q => ∃ z, x = .str z /\ z.length <= sizeLine /\ Q (.str (cutS z lo hi)) H
theorem sl_strX : SlR X rSlX := by
 intro pins s σ H x v vl vu lo hi sl Q I rx hs pl pu h
 obtain ⟨z, rfl, hz, q⟩ := h
 obtain ⟨t, rfl⟩ := rx
 obtain ⟨l, rfl, el⟩ := part_of pl
 obtain ⟨u, rfl, eu⟩ := part_of pu
 refine ⟨"str", _, PySem.F.slot_str_getitem.lookup, rfl, ?_⟩
 have hs' : s.heap.IsSlice sl l u none := by
  obtain ⟨o, ho, hc, hd⟩ := hs
  exact ⟨o, ho, hc, hd⟩
 refine wpAny_getItem_str_slice hs' rfl ?_
 have ep : slicePicked z l u none = Builtin.Str.strSliceIndices lo hi 1 z.length := by
  unfold slicePicked
  rw [el, eu]; rfl
 have hlen : (slicePicked z l u none).length <= z.length := sliceIndices_le _ _ _
 have hfl : ((slicePicked z l u none).filterMap (z.cps[·]?)).length <= z.length := Nat.le_trans (List.length_filterMap_le _ _) hlen
 unfold cutS at q
 rw [← ep] at q
 unfold sliceMade
 split
 ·rename_i c
  rw [if_pos (by simpa using c)] at q
  exact ⟨.str z, H, I, ⟨t, rfl⟩, q⟩
 ·rename_i c
  rw [if_neg (by simpa using c)] at q
  have len : (⟨((slicePicked z l u none).filterMap (z.cps[·]?)).toArray⟩ : Str).length <= z.length := by
   show (((slicePicked z l u none).filterMap (z.cps[·]?)).toArray).size <= z.length
   rw [List.size_toArray]; exact hfl
  exact ⟨Nat.le_trans len hz, .str _, H, I.tok _, ⟨_, rfl⟩, q⟩
def gSl (m : Bool) (d : D) (lo hi : Option Int) (s : S) : R D := match d with
 | .str z => if z.length <= sizeLine then .ok (.str (cutS z lo hi)) s else .bad
 | .tup ds => .ok (.tup (cutL ds lo hi)) s
 | .frz ds => newL m (cutL (ds.map D.da) lo hi) s
 | d => match toL s d with
  | some ds => newL m (cutL ds lo hi) s
  | none => .bad
abbrev FO := En -> S -> R (Option Int)
def fNo : FO := fun _ s => .ok none s
def fSome (f : FE) : FO := fun ρ s => (f ρ s).bind fun d s1 => match d with
 | .int i => .ok (some i) s1
 | _ => .bad
def RefO (K : PySem.W.Frag) (t : TO) (f : FO) : Prop := ∀ as σ H ρ s Q, Rel K as H s -> Envs K as H ρ σ -> Dn K (fun _ _ (b a : Option Int) => b = a) as H (f ρ s) Q -> t σ H Q
structure ROp (X : Cx) (e : Option Expr) (f : FO) : Prop where
 ex : ∃ t, PO X e t /\ RefO X.K t f
theorem ro_none : ROp X none fNo := ⟨_, po_none, fun as σ H ρ s Q rl en h => Dn.now (Q := Q) h rl rfl⟩
theorem ro_some {a : Expr} {fa : FE} (h : RE X a fa) : ROp X (some a) (fSome fa) := by
 obtain ⟨t, p, r⟩ := h.ex
 refine ⟨_, po_some p, fun as σ H ρ s Q rl en h => ?_⟩
 refine r as σ H ρ s _ rl en (Dn.bind h fun d s1 as1 H1 v st1 rl1 r1 h1 => ?_)
 split at h1
 ·cases r1.int_inv
  exact ⟨_, rfl, Dn.now (Q := Q) h1 rl1 rfl⟩
 ·exact h1.elim
def fSl (m : Bool) (f : FE) (lo hi : FO) : FE := fun ρ s => (f ρ s).bind fun d s1 => (lo ρ s1).bind fun l s2 => (hi ρ s2).bind fun u s3 => gSl m d l u s3
theorem re_slice (m : Bool) {a : Expr} {lo hi : Option Expr} {fa : FE} {fl fu : FO} {p2 pos : Pos} (ha : RE X a fa) (hl : ROp X lo fl) (hu : ROp X hi fu) : RE X (.Subscript a (.Slice lo hi none p2) pos) (fSl m fa fl fu) := by
 obtain ⟨ta, pa, ra⟩ := ha.ex
 obtain ⟨tl, pl, rl'⟩ := hl.ex
 obtain ⟨tu, pu, ru⟩ := hu.ex
 refine ⟨_, pe_slice (sl_strX.or (sl_tupA.or sl_listN)) pa pl pu, fun as σ H ρ s Q rl en h => ?_⟩
 refine ra as σ H ρ s _ rl en (Dn.bind h fun d s1 as1 H1 v st1 rl1 r1 h1 => ?_)
 refine rl' as1 σ H1 ρ s1 _ rl1 (en.mono st1) (Dn.bind h1 fun l s2 as2 H2 l' st2 rl2 e2 h2 => ?_)
 have e2 : l' = l := e2
 subst e2
 refine ru as2 σ H2 ρ s2 _ rl2 ((en.mono st1).mono st2) (Dn.bind h2 fun u s3 as3 H3 u' st3 rl3 e3 h3 => ?_)
 have e3 : u' = u := e3
 subst e3
 have r1 := (r1.mono st2).mono st3
 unfold gSl at h3
 split at h3
 ·cases r1.str_inv
  split at h3
  ·rename_i hz
   exact .inl ⟨_, rfl, hz, Dn.now (Q := Q) h3 rl3 (.da (.str _))⟩
  ·exact h3.elim
 ·obtain ⟨p, xs, rfl, n, e, t⟩ := r1.tup_inv
  refine .inr (.inl ⟨p, xs, rfl, SqT.of e, fun c => ?_, fun q H' nw => ?_⟩)
  ·have t2 := t.cut l' u'
   rw [c] at t2
   exact Dn.now (Q := Q) h3 rl3 (.da (.tup n e t2))
  ·exact h3 (.ref q) as3 H' (step_new nw) (rl3.new nw) (.da (.tup (fun z => rl3.has z nw.no) nw.at ((t.cut l' u').mono (step_new nw))))
 ·cases r1 with
  | frz q t => exact .inr (.inr ⟨_, _, rfl, q as3 H3 (Step.refl _ _).toStep0, fun r H' nw => newL_ok h3 rl3 (t.rd.cut l' u') nw⟩)
 ·split at h3
  ·rename_i ds e
   obtain ⟨p, xs, rfl, hx, rs⟩ := toL_ok rl3 r1 e
   exact .inr (.inr ⟨p, xs, rfl, SqL.of hx, fun r H' nw => newL_ok h3 rl3 (rs.cut l' u') nw⟩)
  ·exact h3.elim
def gTru (d : D) (s : S) : R Bool := match d with
 | .non => .ok false s
 | .bl b => .ok b s
 | .int i => .ok (i != 0) s
 | .str z => if z.length <= sizeLine then .ok ((z.length : Int) != 0) s else .bad
 | d => match seqD s d with
  | some ds => .ok (!ds.isEmpty) s
  | none => .bad
def fTru (f : FE) : FT := fun ρ s => (f ρ s).bind gTru
theorem RDs.empty {xs : List V} {ds : List D} (r : RDs K as H xs ds) : xs.isEmpty = ds.isEmpty := by cases r <;> rfl
theorem rt_tru {a : Expr} {fa : FE} (h : RE X a fa) (he : ∀ whole, isTrue a X.env whole = (do let v ← whole; standAt a.pos; holding [v] (truthy v)) := by exact fun _ => rfl) : RT X a (fTru fa) := by
 obtain ⟨t, p, r⟩ := h.ex
 refine ⟨_, pt_truth p he, fun as σ H ρ s Q rl en h => ?_⟩
 refine r as σ H ρ s _ rl en (Dn.bind h fun d s1 as1 H1 v st1 rl1 r1 h1 => ?_)
 unfold gTru at h1
 split at h1
 ·cases r1.non_inv; exact ⟨false, rfl, Dn.now (Q := Q) h1 rl1 rfl⟩
 ·cases r1.bl_inv; exact ⟨_, rfl, Dn.now (Q := Q) h1 rl1 rfl⟩
 ·cases r1.int_inv; exact ⟨_, rfl, Dn.now (Q := Q) h1 rl1 rfl⟩
 ·cases r1.str_inv
  split at h1
  ·rename_i hz
   exact ⟨_, ⟨hz, rfl⟩, Dn.now (Q := Q) h1 rl1 rfl⟩
  ·exact h1.elim
 ·split at h1
  ·rename_i ds e
   obtain ⟨p, xs, rfl, sq, rs⟩ := seq_ok rl1 r1 e
   refine ⟨!xs.isEmpty, ?_, ?_⟩
   ·rcases sq with sq | sq
    ·exact .inl ⟨xs, sq, rfl⟩
    ·exact .inr (.inl ⟨xs, sq, rfl⟩)
   ·rw [rs.empty]; exact Dn.now (Q := Q) h1 rl1 rfl
  ·exact h1.elim
structure CB (X : Cx) (f : Value) (g : FF) : Prop where
 ex : ∃ r, CallR X f r /\ ∀ as H s xs ds Q, Rel X.K as H s -> RDs X.K as H xs ds -> Dn X.K (rD X.K) as H (g ds s) Q -> r xs H Q
theorem cb_of {f : Value} {g : FF} (h : ∀ (pins : List (Addr × Obj)) (sh : Shared) (σ : St) (H : Hp) (as : As) (s : S) (xs : List V) (ds : List D) (us : List Value) (Q : VK), Inv X pins σ H sh -> Rel X.K as H s -> RDs X.K as H xs ds -> Vals xs us ->
  Dn X.K (rD X.K) as H (g ds s) Q -> wpAny (model X.prog X.w) X.A (call f us) (EP X pins σ Q) X.xe sh) : CB X f g :=
 ⟨fun xs H Q => ∃ as s ds, Rel X.K as H s /\ RDs X.K as H xs ds /\ Dn X.K (rD X.K) as H (g ds s) Q, fun pins sh σ H xs us Q I r ⟨as, s, ds, rl, rs, q⟩ => h pins sh σ H as s xs ds us Q I rl rs r q, fun as H s xs ds Q rl rs q => ⟨as, s, ds, rl, rs, q⟩⟩
def fCB (g : FF) (f : FA) : FE := fun ρ s => (f ρ s).bind g
section
variable {x : Str} {id : String} {g : FF} {f : FA} {e : Expr} {es : List Expr} {p pos : Pos}
theorem ref_cb {r : List V -> Hp -> VK -> Prop} {t : TA} (hr : ∀ as H s xs ds Q, Rel K as H s -> RDs K as H xs ds -> Dn K (rD K) as H (g ds s) Q -> r xs H Q) (h : RefA K t f) : RefE K (tCB r t) (fCB g f) := by
 intro as σ H ρ s Q rl en q
 exact h as σ H ρ s _ rl en (Dn.bind q fun ds s1 as1 H1 vs st1 rl1 r1 h1 => hr as1 H1 s1 vs ds Q rl1 r1 h1)
theorem re_cb (c : CB X (.builtin id) g) (hm : X.mg x = none) (hv : bootBuiltins x = some (.builtin id)) (ha : RA X (e :: es) f) (hg : Gl X x := by rfl) (hn : x ≠ "__name__" := by decide) (hdb : (x == ("__debug__" : Str)) = false := by decide)
  (hs : starEach (e :: es) X.env = (false, eval e X.env) :: starEach es X.env := by rfl) (hpl : (backTo pos (starEach es X.env)).any (·.1) = false := by rfl) : RE X (.Call (.Name x p) (e :: es) [] pos) (fCB g f) := by
 obtain ⟨r, hc, hr⟩ := c.ex
 obtain ⟨t, pa, ra⟩ := ha.ex
 exact ⟨_, pe_callB hc hg hm hv pa hn hdb hs hpl, ref_cb hr ra⟩
theorem re_ct (c : CB X (.type id) g) (hm : X.mg x = none) (hv : bootBuiltins x = some (.type id)) (ha : RA X (e :: es) f) (hg : Gl X x := by rfl) (hn : x ≠ "__name__" := by decide) (hdb : (x == ("__debug__" : Str)) = false := by decide)
  (hs : starEach (e :: es) X.env = (false, eval e X.env) :: starEach es X.env := by rfl) (hpl : (backTo pos (starEach es X.env)).any (·.1) = false := by rfl) : RE X (.Call (.Name x p) (e :: es) [] pos) (fCB g f) := by
 obtain ⟨r, hc, hr⟩ := c.ex
 obtain ⟨t, pa, ra⟩ := ha.ex
 exact ⟨_, pe_callTy hc hg hm hv pa hn hdb hs hpl, ref_cb hr ra⟩
end
def gLen (ds : List D) (s : S) : R D := match ds with
 | [.str z] => if z.length <= sizeLine then .ok (.int z.length) s else .bad
 | [d] => match seqD s d with
  | some xs => .ok (.int xs.length) s
  | none => .bad
 | _ => .bad
theorem c_len : CB X (.builtin "len") gLen := cb_of fun pins sh σ H as s xs ds us Q I rl rs ru h => by
 unfold gLen at h
 split at h
 ·obtain ⟨v, rfl, rv⟩ := rs.one
  cases rv.str_inv
  split at h
  ·rename_i hz
   exact call_len_str pins sh σ H _ us Q I ru ⟨_, rfl, hz, Dn.now (Q := Q) h rl (.da (.int _))⟩
  ·exact h.elim
 ·obtain ⟨v, rfl, rv⟩ := rs.one
  split at h
  ·rename_i ys e
   obtain ⟨p, zs, rfl, sq, rz⟩ := seq_ok rl rv e
   refine call_len_seq pins sh σ H _ us Q I ru ⟨p, zs, rfl, sq, ?_⟩
   rw [rz.length]
   exact Dn.now (Q := Q) h rl (.da (.int _))
  ·exact h.elim
 ·exact h.elim
def gList (m : Bool) (ds : List D) (s : S) : R D := match ds with
 | [d] => match seqD s d with
  | some xs => newL m xs s
  | none => .bad
 | _ => .bad
theorem c_list (m : Bool) : CB X (.type "list") (gList m) := cb_of fun pins sh σ H as s xs ds us Q I rl rs ru h => by
 unfold gList at h
 split at h
 ·obtain ⟨v, rfl, rv⟩ := rs.one
  split at h
  ·rename_i ys e
   obtain ⟨p, zs, rfl, sq, rz⟩ := seq_ok rl rv e
   exact call_listN pins sh σ H _ us Q I ru ⟨p, zs, rfl, sq, fun r H' nw => newL_ok h rl rz nw⟩
  ·exact h.elim
 ·exact h.elim
def gTuple (ds : List D) (s : S) : R D := match ds with
 | [.tup xs] => .ok (.tup xs) s
 | [.frz xs] => .ok (.tup xs) s
 | [d] => match toL s d with
  | some xs => newT xs s
  | none => .bad
 | _ => .bad
theorem c_tuple : CB X (.type "tuple") gTuple := cb_of fun pins sh σ H as s xs ds us Q I rl rs ru h => by
 unfold gTuple at h
 split at h
 ·obtain ⟨v, rfl, rv⟩ := rs.one
  obtain ⟨p, zs, rfl, n, e, t⟩ := rv.tup_inv
  exact call_tupleN pins sh σ H _ us Q I ru ⟨p, zs, rfl, .inr ⟨SqT.of e, Dn.now (Q := Q) h rl (.da (.tup n e t))⟩⟩
 ·obtain ⟨v, rfl, rv⟩ := rs.one
  cases rv with
  | frz q t => exact call_tupleN pins sh σ H _ us Q I ru ⟨_, _, rfl, .inl ⟨q as H (Step.refl _ _).toStep0, fun r H' nw => h (.ref r) as H' (step_new nw) (rl.new nw) (.da (.tup (fun z => rl.has z nw.no) nw.at (t.mono (step_new nw))))⟩⟩
 ·obtain ⟨v, rfl, rv⟩ := rs.one
  split at h
  ·rename_i ys e
   obtain ⟨p, zs, rfl, hx, rz⟩ := toL_ok rl rv e
   exact call_tupleN pins sh σ H _ us Q I ru ⟨p, zs, rfl, .inl ⟨SqL.of hx, fun r H' nw => newT_ok h rl rz nw⟩⟩
  ·exact h.elim
 ·exact h.elim
def gIsi (ds : List D) (s : S) : R D := match ds with
 | [d, .ty n] => if n = "str" \/ n = "int" \/ n = "bool" \/ n = "tuple" \/ n = "list" then match d with
   | .da d => .ok (.bl (isiD d n)) s
   | .ref k => match s[k]? with
    | some (.lst _) => .ok (.bl (n == "list")) s
    | _ => .bad
   | _ => .bad
  else .bad
 | _ => .bad
theorem TD.ty {v : V} {d : PyData} (t : TD as H v d) : TyOf K H v (.type (tyD d)) := by
 cases t with
 | non => exact .non
 | bl b => exact .bl b
 | int i => exact .int i
 | str x => exact .str x
 | tup n e w => exact .tup e
 | lst n e w => exact .lst e
theorem c_isi : CB X (.builtin "isinstance") gIsi := cb_of fun pins sh σ H as s xs ds us Q I rl rs ru h => by
 unfold gIsi at h
 split at h
 ·rename_i d n
  obtain ⟨v, w, rfl, rv, rw⟩ := rs.two
  obtain ⟨u, u2, rfl, ru1, ru2⟩ := vals2 ru
  cases rw
  cases (show u2 = Value.type n from ru2)
  split at h
  ·rename_i hn
   split at h
   ·rename_i d
    cases rv with
    | da t => exact isinst_ok I ru1 t.ty (kit_ok X.K d n hn) fun tk => ⟨.bl _, H, I.tok _, rfl, Dn.now (Q := Q) h rl (.da (.bl _))⟩
   ·rename_i k
    split at h
    ·rename_i ys e
     cases rv with
     | ref l hr =>
      obtain ⟨_, zs, hz, _⟩ := ref_list rl hr e
      exact isinst_ok I ru1 (.lst hz) (kit_ok X.K (.list []) n hn) fun tk => ⟨.bl _, H, I.tok _, rfl, Dn.now (Q := Q) h rl (.da (.bl _))⟩
    ·exact h.elim
   ·exact h.elim
  ·exact h.elim
 ·exact h.elim
def okS (d : PyData) : Bool := d.canLay0 && d.showable && decide (d.depth <= 64) && decide (d.shown.length <= sizeLine)
def gRepr (ds : List D) (s : S) : R D := match ds with
 | [d] => match toP s d with
  | some a => if okS a = true then .ok (.str a.shown) s else .bad
  | none => .bad
 | _ => .bad
theorem c_repr {k : Nat} (hr : Room k X.A) : CB X (.builtin "repr") gRepr := cb_of fun pins sh σ H as s xs ds us Q I rl rs ru h => by
 unfold gRepr at h
 split at h
 ·obtain ⟨v, rfl, rv⟩ := rs.one
  obtain ⟨u, rfl, ru1⟩ := vals1 ru
  split at h
  ·rename_i a e
   split at h
   ·rename_i ok
    unfold okS at ok
    (simp only [Bool.and_eq_true, decide_eq_true_eq] at ok)
    obtain ⟨⟨⟨ok1, ok2⟩, ok3⟩, ok4⟩ := ok
    have hun := hr.un
    obtain ⟨bs, q⟩ := rv.reads I rl e ru1
    have fin : Q (.str a.shown) H := Dn.now (Q := Q) h rl (.da (.str _))
    have nd := PyData.hasDict_of_canLay a ok1
    cases q with
    | none => exact PySem.P.repr_of_none ⟨.str "None", H, I.tok _, ⟨_, rfl⟩, fin⟩
    | bool b => exact PySem.P.repr_of_bool ⟨.str (if b then "True" else "False"), H, I.tok _, ⟨_, rfl⟩, fin⟩
    | int i t => exact PySem.P.repr_of_int (by simpa [PyData.showable] using ok2) ⟨.str (toString i), H, I.tok _, ⟨_, rfl⟩, fin⟩
    | str x t => exact PySem.P.repr_of_str ⟨.str (reprText x), H, I.tok _, ⟨_, rfl⟩, fin⟩ (by simpa [PyData.shown] using ok4)
    | tuple k1 k2 k3 k4 => exact repr_of_reads' (.tuple k1 k2 k3 k4) ok2 (fun z => by rw [nd] at z; cases z) hr.gd (by omega) (fun _ _ e => e) (fun h' u tk hk => ⟨.str _, H, I.kept hk, ⟨u, rfl⟩, fin⟩) ok4
    | list k1 k2 k3 k4 => exact repr_of_reads' (.list k1 k2 k3 k4) ok2 (fun z => by rw [nd] at z; cases z) hr.gd (by omega) (fun _ _ e => e) (fun h' u tk hk => ⟨.str _, H, I.kept hk, ⟨u, rfl⟩, fin⟩) ok4
    | dict => cases ok1
   ·exact h.elim
  ·exact h.elim
 ·exact h.elim
end
end PF
namespace PF
open PySem PySem.Spec
open L2
section
variable {X : Cx} {K : PySem.W.Frag} {as : As} {H : Hp}
abbrev GM := D -> List D -> S -> R D
def fMt (g : GM) (fo : FE) (fa : FA) : FE := fun ρ s => (fo ρ s).bind fun d s1 => if (toL s1 d).isSome = true then (fa ρ s1).bind fun ds s2 => g d ds s2 else .bad
structure MB (X : Cx) (id : String) (g : GM) : Prop where
 ex : ∃ r, MtR X id r /\ ∀ as H s x xs d ds Q, Rel X.K as H s -> RD X.K as H x d -> RDs X.K as H xs ds -> Dn X.K (rD X.K) as H (g d ds s) Q -> r x xs H Q
theorem ty_list {s : S} {v : V} {d : D} (rl : Rel K as H s) (r : RD K as H v d) (h : (toL s d).isSome = true) : tyV K "list" v H := by
 cases e : toL s d with
 | none => rw [e] at h; cases h
 | some ds =>
  obtain ⟨p, xs, rfl, hx, _⟩ := toL_ok rl r e
  exact .inl ⟨rfl, xs, SqL.of hx⟩
theorem re_mt {o e : Expr} {es : List Expr} {fo : FE} {fa : FA} {name : Str} {id : String} {g : GM} {apos cpos : Pos} (slot : Slot "list" name id) (hty : typeOf (.builtin id) = pure (.type "method_descriptor")) (hm : MB X id g) (ho : RE X o fo) (ha : RA X (e :: es) fa)
  (hbase : attributeBase o name X.env (eval o X.env) = eval o X.env := by rfl)
  (hfew : ((backTo cpos (starEach (e :: es) X.env)).all (fun x => !x.1) && (backToKw cpos (keywordEach [] X.env)).all (fun x => x.1.isSome)
   && decide ((e :: es).length + ([] : List Keyword).length + (if ([] : List Keyword).isEmpty then 0 else 1) < 30)) = true := by rfl)
  (hline : (apos.endLine == cpos.line) = true := by rfl) (hs : starEach (e :: es) X.env = (false, eval e X.env) :: starEach es X.env := by rfl) (hplain : (backTo cpos (starEach es X.env)).any (·.1) = false := by rfl) :
  RE X (.Call (.Attribute o name apos) (e :: es) [] cpos) (fMt g fo fa) := by
 obtain ⟨r, hr, hg⟩ := hm.ex
 obtain ⟨to, po, ro⟩ := ho.ex
 obtain ⟨ta, pa, ra⟩ := ha.ex
 refine ⟨_, pe_bm PySem.F.plainAttrs_list slot hty hr po pa hbase hfew hline hs hplain, fun as σ H ρ s Q rl en h => ?_⟩
 refine ro as σ H ρ s _ rl en (Dn.bind h fun d s1 as1 H1 v st1 rl1 r1 h1 => ?_)
 split at h1
 ·rename_i hl
  refine ⟨ty_list rl1 r1 hl, ra as1 σ H1 ρ s1 _ rl1 (en.mono st1) (Dn.bind h1 fun ds s2 as2 H2 vs st2 rl2 r2 h2 => ?_)⟩
  exact hg as2 H2 s2 v vs d ds Q rl2 (r1.mono st2) r2 h2
 ·exact h1.elim
theorem re_mt0 {o : Expr} {fo : FE} {name : Str} {id : String} {g : GM} {apos cpos : Pos} (slot : Slot "list" name id) (hty : typeOf (.builtin id) = pure (.type "method_descriptor")) (hm : MB X id g) (ho : RE X o fo)
  (hbase : attributeBase o name X.env (eval o X.env) = eval o X.env := by rfl) (hline : (apos.endLine == cpos.line) = true := by rfl) : RE X (.Call (.Attribute o name apos) [] [] cpos) (fMt g fo fNil) := by
 obtain ⟨r, hr, hg⟩ := hm.ex
 obtain ⟨to, po, ro⟩ := ho.ex
 refine ⟨_, pe_bm0 PySem.F.plainAttrs_list slot hty hr po hbase hline, fun as σ H ρ s Q rl en h => ?_⟩
 refine ro as σ H ρ s _ rl en (Dn.bind h fun d s1 as1 H1 v st1 rl1 r1 h1 => ?_)
 split at h1
 ·rename_i hl
  exact ⟨ty_list rl1 r1 hl, hg as1 H1 s1 v [] d [] Q rl1 r1 .nil h1⟩
 ·exact h1.elim
theorem chg_ok {s : S} {p : Addr} {n : Nat} {o : HO} {H' : Hp} {d : D} {v : V} {ys : List V} {es : List D} {Q : VK} (rl : Rel K as H s) (ha : as.ix[n]? = some (some p)) (c : Chg H p (.lst ys) H') (rs : RDs K as H ys es) (rv : RD K as H v d) (h : Dn K (rD K) as H (.ok d (s.set n (.lst es))) Q) : Q v H' := by
 have st := step_chg (mem_as.mpr ⟨n, ha⟩) (fun z => rl.hx p z (mem_as.mpr ⟨n, ha⟩)) c
 exact h v as H' st (rl.chg ha c ⟨ys, c.at, rs.mono st⟩) (rv.mono st)
def onL (d : D) (s : S) (k : Nat -> List D -> R D) : R D := match d with
 | .ref n => match s[n]? with
  | some (.lst ds) => k n ds
  | _ => .bad
 | _ => .bad
theorem onL_ok {s : S} {d : D} {v : V} {k : Nat -> List D -> R D} {Q : VK} (rl : Rel K as H s) (r : RD K as H v d) (h : Dn K (rD K) as H (onL d s k) Q) : ∃ p n xs ds, v = .ref p /\ as.ix[n]? = some (some p) /\ H p = some (.lst xs) /\ RDs K as H xs ds /\ Dn K (rD K) as H (k n ds) Q := by
 cases r with
 | @ref p n l hr =>
  have h : Dn K (rD K) as H (match s[n]? with | some (O.lst ds) => k n ds | _ => .bad) Q := h
  split at h
  ·rename_i ds e
   obtain ⟨ha, xs, hx, rs⟩ := ref_list rl hr e
   exact ⟨p, n, xs, ds, rfl, ha, hx, rs, h⟩
  ·exact h.elim
 | _ => exact h.elim
def gAppend : GM := fun d ds s => match ds with
 | [x] => onL d s fun n xs => if xs.length < sizeLine then .ok .non (s.set n (.lst (xs ++ [x]))) else .bad
 | _ => .bad
theorem m_append : MB X "list.append" gAppend := ⟨_, mt_appendN, fun as H s x xs d ds Q rl r rs h => by
 unfold gAppend at h
 split at h
 ·obtain ⟨v, rfl, rv⟩ := rs.one
  obtain ⟨p, n, ys, es, rfl, ha, hy, re, h⟩ := onL_ok rl r h
  split at h
  ·rename_i hz
   exact ⟨p, ys, v, rfl, rfl, hy, by rw [re.length]; exact hz, fun H' c => chg_ok (o := .lst []) rl ha c (re.append (.cons rv .nil)) (.da .non) h⟩
  ·exact h.elim
 ·exact h.elim⟩
def gExtend : GM := fun d ds s => match ds with
 | [.tup ys] => onL d s fun n xs => if xs.length + ys.length <= sizeLine then .ok .non (s.set n (.lst (xs ++ ys.map D.da))) else .bad
 | [e] => match toL s e with
  | some ys => onL d s fun n xs => if xs.length + ys.length <= sizeLine then .ok .non (s.set n (.lst (xs ++ ys))) else .bad
  | none => .bad
 | _ => .bad
theorem mt_or {id : String} {r r' : V -> List V -> Hp -> VK -> Prop} (h : MtM X id r) (h' : MtM X id r') : MtR X id (fun x xs H Q => r x xs H Q \/ r' x xs H Q) := MtR.or h h'
theorem m_extend : MB X "list.extend" gExtend := ⟨_, mt_or mt_extendN mt_extendTN, fun as H s x xs d ds Q rl r rs h => by
 unfold gExtend at h
 split at h
 ·obtain ⟨v, rfl, rv⟩ := rs.one
  obtain ⟨p, n, ys, es, rfl, ha, hy, re, h⟩ := onL_ok rl r h
  split at h
  ·rename_i hz
   obtain ⟨q, zs, rfl, _, e, t⟩ := rv.tup_inv
   exact .inr ⟨p, q, ys, zs, rfl, rfl, hy, SqT.of e, by rw [re.length, t.length]; exact hz, fun H' c => chg_ok (o := .lst []) rl ha c (re.append t.rd) (.da .non) h⟩
  ·exact h.elim
 ·obtain ⟨v, rfl, rv⟩ := rs.one
  split at h
  ·rename_i zs e
   obtain ⟨q, ws, rfl, hq, rz⟩ := toL_ok rl rv e
   obtain ⟨p, n, ys, es, rfl, ha, hy, re, h⟩ := onL_ok rl r h
   split at h
   ·rename_i hz
    exact .inl ⟨p, q, ys, ws, rfl, rfl, hy, hq, by rw [re.length, rz.length]; exact hz, fun H' c => chg_ok (o := .lst []) rl ha c (re.append rz) (.da .non) h⟩
   ·exact h.elim
  ·exact h.elim
 ·exact h.elim⟩
def gSet (o i v : D) (s : S) : R D := match i with
 | .int k => onL o s fun n xs => match ixN xs.length k with
  | some j => .ok .non (s.set n (.lst (xs.set j v)))
  | none => .bad
 | _ => .bad
def fSetIt (fv fo fi : FE) : FS := fun ρ s => (fv ρ s).bind fun v s1 => (fo ρ s1).bind fun o s2 => (fi ρ s2).bind fun i s3 => (gSet o i v s3).bind fun _ s4 => .ok (.nx ρ) s4
theorem rs_sub {o i e : Expr} {fo fi fv : FE} {pos pos' : Pos} (he : RE X e fv) (ho : RE X o fo) (hi : RE X i fi) (ha : ∀ v, assign (.Subscript o i pos') X.env v = (do
   let ov ← holding [v] (eval o X.env)
   let iv ← holding [v, ov] (eval i X.env)
   standAt pos'
   holding [v, ov, iv] (setItem ov iv v)
   release [v, ov, iv] []) := by intro _; rfl) (hs : swapsWithSole [.Subscript o i pos'] e pos.line X.env = pure false := by rfl) (hw : swappedStores [.Subscript o i pos'] e X.env = pure none := by rfl)
  (h1 : (assignEach [.Subscript o i pos'] X.env).map (·.2) = [assign (.Subscript o i pos') X.env] := by rfl) : RS X (.Assign [.Subscript o i pos'] e pos) (fSetIt fv fo fi) := by
 obtain ⟨te, pe, re⟩ := he.ex
 obtain ⟨to, po, ro⟩ := ho.ex
 obtain ⟨ti, pi, ri⟩ := hi.ex
 refine ⟨_, ps_asg pe (pg_sub po pi set_listN ha) hs hw h1, fun as σ H ρ s D rl en h => ?_⟩
 refine re as σ H ρ s _ rl en (Dn.bind h fun v s1 as1 H1 vv st1 rl1 r1 h1 => ?_)
 refine ro as1 σ H1 ρ s1 _ rl1 (en.mono st1) (Dn.bind h1 fun o s2 as2 H2 ov st2 rl2 r2 h2 => ?_)
 refine ri as2 σ H2 ρ s2 _ rl2 ((en.mono st1).mono st2) (Dn.bind h2 fun i s3 as3 H3 iv st3 rl3 r3 h3 => ?_)
 have en3 := ((en.mono st1).mono st2).mono st3
 have h3 : Dn X.K (rD X.K) as3 H3 (gSet o i v s3) (fun _ H' => D.nx σ H') := Dn.bind h3 fun d s4 as4 H4 vv st4 rl4 r4 h4 => Dn.now (b := FV.nx σ) h4 rl4 (.nx (en3.mono st4))
 unfold gSet at h3
 split at h3
 ·cases r3.int_inv
  obtain ⟨p, n, xs, ds, rfl, ha, hx, rs, h3⟩ := onL_ok rl3 (r2.mono st3) h3
  split at h3
  ·rename_i j e
   refine ⟨p, xs, _, j, rfl, rfl, hx, by rw [rs.length]; exact e, fun H' c => ?_⟩
   exact chg_ok (v := .non) (o := .lst []) rl3 ha c (rs.set j ((r1.mono st2).mono st3)) (.da .non) h3
  ·exact h3.elim
 ·exact h3.elim
end
end PF
namespace PF
open PySem PySem.Spec
open L2
theorem u64 {A : Around} {k : Nat} (hr : Room k A) : A.units + 64 < cLine := by have := hr.un; omega
theorem u65 {A : Around} {k : Nat} (hr : Room k A) : A.units + 65 < cLine := by have := hr.un; omega
section
variable {P : Program} {w : World} {K : PySem.W.Frag} {mg : Str -> Option Value} {base : Heap} {x : Str} {st : Stmt} {N ps : List Str} {k n : Nat}
def badF : FF := fun _ _ => .bad
theorem cal_bad (h : Has K mg x st ps) (S : FnScope N ps (defScope st)) (hn : ps.length = n) : CalF P w K mg base x (k + 1) n badF := by
 refine ⟨h.cal S (fun vs H Q E h => by rw [hn]; exact h.1) fun f cdv A outer s H vs Q E hr h => ?_⟩
 obtain ⟨hv, as, ds, s', rl, rs, h⟩ := h
 exact h.elim
end
end PF
namespace PF
open PySem PySem.Spec
open L2
def R.Wk {α β : Type} (f : α -> S -> R β) (Q : β -> S -> Prop) (a : α) (s : S) : Prop := (f a s).W Q
theorem R.W_bindk {α β : Type} (r : R α) (f : α -> S -> R β) (Q : β -> S -> Prop) : (r.bind f).W Q = r.W (R.Wk f Q) := R.W_bind r f Q
@[simp] theorem R.Wk_app {α β : Type} (f : α -> S -> R β) (Q : β -> S -> Prop) (a : α) (s : S) : R.Wk f Q a s = (f a s).W Q := (rfl)
section
variable {s : S} {m : Bool} {n : Nat} {i j : Int} {x y : Str} {b : Bool} {xs ys : List PyData} {ds es : List D} {d e : D} {ρ : En} {Q : D -> S -> Prop}
theorem sizeLine_eq' : sizeLine = 16777216 := sizeLine_eq
@[simp] theorem gAdd_int : gAdd m (.int i) (.int j) s = .ok (.int (i + j)) s := (rfl)
theorem gAdd_tup (h : xs.length + ys.length <= 16777216) : gAdd m (.tup xs) (.tup ys) s = .ok (.tup (xs ++ ys)) s := if_pos (by rw [sizeLine_eq']; exact h)
theorem gAdd_lst (h : xs.length + ys.length <= 16777216) : gAdd false (.lst xs) (.lst ys) s = .ok (.lst (xs ++ ys)) s := by
 show (if (xs.map D.da).length + (ys.map D.da).length <= sizeLine then newL false (xs.map D.da ++ ys.map D.da) s else .bad) = _
 rw [if_pos (by rw [sizeLine_eq', List.length_map, List.length_map]; exact h), ← List.map_append]
 show (match pures _ with | some xs => R.ok (D.lst xs) s | none => .bad) = _
 rw [pures_da]
theorem gMul_int (h : (-(2 ^ 64) < i /\ i < 2 ^ 64) \/ (-(2 ^ 64) < j /\ j < 2 ^ 64)) : gMul (.int i) (.int j) s = .ok (.int (i * j)) s := if_pos h
theorem gDiv_int (h : 0 < j) (h2 : j < 1073741824) : gDiv (.int i) (.int j) s = .ok (.int (i / j)) s := if_pos ⟨h, h2⟩
theorem gMod_int (h : 0 < j) : gMod (.int i) (.int j) s = .ok (.int (i % j)) s := if_pos h
theorem gPow_int (h : 0 <= j) (h1 : j <= 1000000) (h2 : i.natAbs < 2 ^ 64) : gPow (.int i) (.int j) s = .ok (.int (i ^ j.toNat)) s := if_pos ⟨h, h1, h2⟩
@[simp] theorem gLt_int : gLt (.int i) (.int j) s = .ok (.bl (decide (i < j))) s := (rfl)
@[simp] theorem gGt_int : gGt (.int i) (.int j) s = .ok (.bl (decide (j < i))) s := (rfl)
@[simp] theorem gGe_int : gGe (.int i) (.int j) s = .ok (.bl (decide (j <= i))) s := (rfl)
theorem beq_strs (x y : Str) : PyData.eqv (.str x) (.str y) = decide (x = y) := by
 show (x == y) = _
 (rw [Bool.eq_iff_iff, beq_iff_eq, decide_eq_true_eq])
theorem gEq_da {p q : PyData} (h1 : okD p = true) (h2 : okD q = true) : gEq (.da p) (.da q) s = .ok (.bl (PyData.eqv p q)) s := by
 have e : gEqD (.da p) (.da q) s = .ok (.bl (PyData.eqv p q)) s := if_pos ⟨h1, h2⟩
 cases p <;> cases q <;> first | exact e | (rw [beq_strs]; rfl)
theorem gNe_s : gNe (.str x) (.str y) s = .ok (.bl (!decide (x = y))) s := (rfl)
theorem gNe_da {p q : PyData} (h1 : okD p = true) (h2 : okD q = true) : gNe (.da p) (.da q) s = .ok (.bl (!PyData.eqv p q)) s := by
 have e : gNeD (.da p) (.da q) s = .ok (.bl (!PyData.eqv p q)) s := if_pos ⟨h1, h2⟩
 cases p <;> cases q <;> first | exact e | (rw [beq_strs]; rfl)
theorem gIx_ref {k : Nat} (h : s[n]? = some (.lst ds)) (h2 : ds[k]? = some d) : gIx (.ref n) (.int (k : Int)) s = .ok d s := by
 show (match (match s[n]? with | some (O.lst ds) => some ds | _ => none) with | some ds => (match atI ds (k : Int) with | some d => R.ok d s | none => .bad) | none => .bad) = _
 rw [h]
 show (match atI ds (k : Int) with | some d => R.ok d s | none => .bad) = _
 rw [atI_nat h2]
theorem gIx_tup {k : Nat} {p : PyData} (h2 : xs[k]? = some p) : gIx (.tup xs) (.int (k : Int)) s = .ok (.da p) s := by
 show (match atI (xs.map D.da) (k : Int) with | some d => R.ok d s | none => .bad) = _
 rw [atI_nat (v := D.da p) (by rw [List.getElem?_map, h2]; rfl)]
theorem gIx_lst {k : Nat} {p : PyData} (h2 : xs[k]? = some p) : gIx (.lst xs) (.int (k : Int)) s = .ok (.da p) s := by
 show (match atI (xs.map D.da) (k : Int) with | some d => R.ok d s | none => .bad) = _
 rw [atI_nat (v := D.da p) (by rw [List.getElem?_map, h2]; rfl)]
theorem gSet_ref {k : Nat} (h : s[n]? = some (.lst ds)) (h2 : k < ds.length) : gSet (.ref n) (.int (k : Int)) d s = .ok .non (s.set n (.lst (ds.set k d))) := by
 show (match s[n]? with | some (O.lst xs) => (match ixN xs.length (k : Int) with | some j => R.ok D.non (s.set n (.lst (xs.set j d))) | none => .bad) | _ => .bad) = _
 rw [h]
 have : ixN ds.length (k : Int) = some k := by
  unfold ixN
  rw [if_pos (by omega), if_pos (by omega)]
  rfl
 show (match ixN ds.length (k : Int) with | some j => R.ok D.non (s.set n (.lst (ds.set j d))) | none => .bad) = _
 rw [this]
def kOp1 (g : D -> D -> S -> R D) (fb : FE) (ρ : En) (x : D) (s : S) : R D := (fb ρ s).bind fun y s2 => g x y s2
def kOp2 (g : D -> D -> S -> R D) (x y : D) (s : S) : R D := g x y s
@[simp] theorem e_op {g : D -> D -> S -> R D} {fa fb : FE} : fOp g fa fb ρ s = (fa ρ s).bind (kOp1 g fb ρ) := (rfl)
@[simp] theorem e_op1 {g : D -> D -> S -> R D} {fb : FE} : kOp1 g fb ρ d s = (fb ρ s).bind (kOp2 g d) := (rfl)
@[simp] theorem e_op2 {g : D -> D -> S -> R D} : kOp2 g d e s = g d e s := (rfl)
@[simp] theorem e_c : fC d ρ s = .ok d s := (rfl)
@[simp] theorem e_var0 {r : En} : fVar 0 (some d :: r) s = .ok d s := (rfl)
@[simp] theorem e_var1 {r : En} {x0 : Option D} : fVar 1 (x0 :: some d :: r) s = .ok d s := (rfl)
@[simp] theorem e_var2 {r : En} {x0 x1 : Option D} : fVar 2 (x0 :: x1 :: some d :: r) s = .ok d s := (rfl)
@[simp] theorem e_var3 {r : En} {x0 x1 x2 : Option D} : fVar 3 (x0 :: x1 :: x2 :: some d :: r) s = .ok d s := (rfl)
@[simp] theorem e_var4 {r : En} {x0 x1 x2 x3 : Option D} : fVar 4 (x0 :: x1 :: x2 :: x3 :: some d :: r) s = .ok d s := (rfl)
@[simp] theorem e_var5 {r : En} {x0 x1 x2 x3 x4 : Option D} : fVar 5 (x0 :: x1 :: x2 :: x3 :: x4 :: some d :: r) s = .ok d s := (rfl)
@[simp] theorem e_var6 {r : En} {x0 x1 x2 x3 x4 x5 : Option D} : fVar 6 (x0 :: x1 :: x2 :: x3 :: x4 :: x5 :: some d :: r) s = .ok d s := (rfl)
@[simp] theorem e_var7 {r : En} {x0 x1 x2 x3 x4 x5 x6 : Option D} : fVar 7 (x0 :: x1 :: x2 :: x3 :: x4 :: x5 :: x6 :: some d :: r) s = .ok d s := (rfl)
@[simp] theorem e_var8 {r : En} {x0 x1 x2 x3 x4 x5 x6 x7 : Option D} : fVar 8 (x0 :: x1 :: x2 :: x3 :: x4 :: x5 :: x6 :: x7 :: some d :: r) s = .ok d s := (rfl)
@[simp] theorem e_var9 {r : En} {x0 x1 x2 x3 x4 x5 x6 x7 x8 : Option D} : fVar 9 (x0 :: x1 :: x2 :: x3 :: x4 :: x5 :: x6 :: x7 :: x8 :: some d :: r) s = .ok d s := (rfl)
@[simp] theorem e_var10 {r : En} {x0 x1 x2 x3 x4 x5 x6 x7 x8 x9 : Option D} : fVar 10 (x0 :: x1 :: x2 :: x3 :: x4 :: x5 :: x6 :: x7 :: x8 :: x9 :: some d :: r) s = .ok d s := (rfl)
@[simp] theorem e_var11 {r : En} {x0 x1 x2 x3 x4 x5 x6 x7 x8 x9 x10 : Option D} : fVar 11 (x0 :: x1 :: x2 :: x3 :: x4 :: x5 :: x6 :: x7 :: x8 :: x9 :: x10 :: some d :: r) s = .ok d s := (rfl)
@[simp] theorem e_var12 {r : En} {x0 x1 x2 x3 x4 x5 x6 x7 x8 x9 x10 x11 : Option D} : fVar 12 (x0 :: x1 :: x2 :: x3 :: x4 :: x5 :: x6 :: x7 :: x8 :: x9 :: x10 :: x11 :: some d :: r) s = .ok d s := (rfl)
def kSeq (g : FS) (fl : Fl) (s : S) : R Fl := match fl with
 | .nx ρ1 => g ρ1 s
 | fl => .ok fl s
@[simp] theorem e_seq {f g : FS} : fSeq f g ρ s = (f ρ s).bind (kSeq g) := (rfl)
@[simp] theorem e_seqn {g : FS} : kSeq g (.nx ρ) s = g ρ s := (rfl)
@[simp] theorem e_seqr {g : FS} : kSeq g (.rt d) s = .ok (.rt d) s := (rfl)
def kRet (d : D) (s : S) : R Fl := .ok (.rt d) s
@[simp] theorem e_ret {f : FE} : fRet f ρ s = (f ρ s).bind kRet := (rfl)
@[simp] theorem e_ret1 : kRet d s = .ok (.rt d) s := (rfl)
@[simp] theorem e_next : fNext ρ s = .ok (.nx ρ) s := (rfl)
def kDrop (ρ : En) (_ : D) (s : S) : R Fl := .ok (.nx ρ) s
@[simp] theorem e_drop {f : FE} : fDrop f ρ s = (f ρ s).bind (kDrop ρ) := (rfl)
@[simp] theorem e_drop1 : kDrop ρ d s = .ok (.nx ρ) s := (rfl)
def kSet (i : Nat) (ρ : En) (d : D) (s : S) : R Fl := .ok (.nx (ρ.set i (some d))) s
@[simp] theorem e_set {i : Nat} {f : FE} : fSet i f ρ s = (f ρ s).bind (kSet i ρ) := (rfl)
@[simp] theorem e_set1 {i : Nat} : kSet i ρ d s = .ok (.nx (ρ.set i (some d))) s := (rfl)
def kIfS (f g : FS) (ρ : En) (k : Bool) (s : S) : R Fl := if k = true then f ρ s else g ρ s
@[simp] theorem e_ifS {c : FT} {f g : FS} : fIfS c f g ρ s = (c ρ s).bind (kIfS f g ρ) := (rfl)
@[simp] theorem e_ifT {f g : FS} : kIfS f g ρ true s = f ρ s := (rfl)
@[simp] theorem e_ifF {f g : FS} : kIfS f g ρ false s = g ρ s := (rfl)
def kIf (f g : FE) (ρ : En) (k : Bool) (s : S) : R D := if k = true then f ρ s else g ρ s
@[simp] theorem e_if {c : FT} {f g : FE} : fIf c f g ρ s = (c ρ s).bind (kIf f g ρ) := (rfl)
@[simp] theorem e_ifET {f g : FE} : kIf f g ρ true s = f ρ s := (rfl)
@[simp] theorem e_ifEF {f g : FE} : kIf f g ρ false s = g ρ s := (rfl)
def kTest (d : D) (s : S) : R Bool := match d with
 | .bl k => .ok k s
 | _ => .bad
@[simp] theorem e_test {f : FE} : fTest f ρ s = (f ρ s).bind kTest := (rfl)
@[simp] theorem e_test1 : kTest (.bl b) s = .ok b s := (rfl)
def kAndT (g : FT) (ρ : En) (c : Bool) (s : S) : R Bool := if c = true then g ρ s else .ok false s
def kOrT (g : FT) (ρ : En) (c : Bool) (s : S) : R Bool := if c = true then .ok true s else g ρ s
def kNotT (c : Bool) (s : S) : R Bool := .ok (!c) s
@[simp] theorem e_andT {f g : FT} : fAndT f g ρ s = (f ρ s).bind (kAndT g ρ) := (rfl)
@[simp] theorem e_orT {f g : FT} : fOrT f g ρ s = (f ρ s).bind (kOrT g ρ) := (rfl)
@[simp] theorem e_notT {f : FT} : fNotT f ρ s = (f ρ s).bind kNotT := (rfl)
@[simp] theorem e_andT1 {g : FT} : kAndT g ρ true s = g ρ s := (rfl)
@[simp] theorem e_andT0 {g : FT} : kAndT g ρ false s = .ok false s := (rfl)
@[simp] theorem e_orT1 {g : FT} : kOrT g ρ true s = .ok true s := (rfl)
@[simp] theorem e_orT0 {g : FT} : kOrT g ρ false s = g ρ s := (rfl)
@[simp] theorem e_notT1 : kNotT b s = .ok (!b) s := (rfl)
def kCons1 (g : FA) (ρ : En) (x : D) (s : S) : R (List D) := (g ρ s).bind fun xs s2 => .ok (x :: xs) s2
def kCons2 (x : D) (xs : List D) (s : S) : R (List D) := .ok (x :: xs) s
@[simp] theorem e_nil : fNil ρ s = .ok [] s := (rfl)
@[simp] theorem e_vs : fVs ds ρ s = .ok ds s := (rfl)
@[simp] theorem e_cons {f : FE} {g : FA} : fCons f g ρ s = (f ρ s).bind (kCons1 g ρ) := (rfl)
@[simp] theorem e_cons1 {g : FA} : kCons1 g ρ d s = (g ρ s).bind (kCons2 d) := (rfl)
@[simp] theorem e_cons2 : kCons2 d ds s = .ok (d :: ds) s := (rfl)
def kTup (ds : List D) (s : S) : R D := if ds.length <= sizeLine then newT ds s else .bad
def kLst (m : Bool) (ds : List D) (s : S) : R D := if ds.length <= sizeLine then newL m ds s else .bad
@[simp] theorem e_tup {f : FA} : fTup f ρ s = (f ρ s).bind kTup := (rfl)
@[simp] theorem e_lst {f : FA} : fLst m f ρ s = (f ρ s).bind (kLst m) := (rfl)
theorem kTup_ok (h : pures ds = some xs) (hl : ds.length <= 16777216) : kTup ds s = .ok (.tup xs) s := by
 unfold kTup newT
 rw [if_pos (by rw [sizeLine_eq']; exact hl), h]
theorem kLst_ok (h : pures ds = some xs) (hl : ds.length <= 16777216) : kLst false ds s = .ok (.lst xs) s := by
 unfold kLst newL
 rw [if_pos (by rw [sizeLine_eq']; exact hl), if_neg Bool.false_ne_true, h]
@[simp] theorem tup0 : kTup [] s = .ok (.tup []) s := (rfl)
@[simp] theorem lst0 : kLst false [] s = .ok (.lst []) s := (rfl)
@[simp] theorem lst0n : kLst true [] s = .ok (.ref s.length) (s ++ [.lst []]) := (rfl)
@[simp] theorem tup1 {a : PyData} : kTup [.da a] s = .ok (.tup [a]) s := (rfl)
@[simp] theorem tup2 {a b : PyData} : kTup [.da a, .da b] s = .ok (.tup [a, b]) s := (rfl)
@[simp] theorem tup4 {a b c d : PyData} : kTup [.da a, .da b, .da c, .da d] s = .ok (.tup [a, b, c, d]) s := (rfl)
@[simp] theorem lst1 {a : PyData} : kLst false [.da a] s = .ok (.lst [a]) s := (rfl)
@[simp] theorem lst2 {a b : PyData} : kLst false [.da a, .da b] s = .ok (.lst [a, b]) s := (rfl)
@[simp] theorem lst3 {a b c : PyData} : kLst false [.da a, .da b, .da c] s = .ok (.lst [a, b, c]) s := (rfl)
@[simp] theorem lst4 {a b c d : PyData} : kLst false [.da a, .da b, .da c, .da d] s = .ok (.lst [a, b, c, d]) s := (rfl)
def kSl1 (m : Bool) (lo hi : FO) (ρ : En) (d : D) (s : S) : R D := (lo ρ s).bind fun l s2 => (hi ρ s2).bind fun u s3 => gSl m d l u s3
def kSl2 (m : Bool) (hi : FO) (ρ : En) (d : D) (l : Option Int) (s : S) : R D := (hi ρ s).bind fun u s3 => gSl m d l u s3
def kSl3 (m : Bool) (d : D) (l u : Option Int) (s : S) : R D := gSl m d l u s
@[simp] theorem e_sl {f : FE} {lo hi : FO} : fSl m f lo hi ρ s = (f ρ s).bind (kSl1 m lo hi ρ) := (rfl)
@[simp] theorem e_sl1 {lo hi : FO} : kSl1 m lo hi ρ d s = (lo ρ s).bind (kSl2 m hi ρ d) := (rfl)
@[simp] theorem e_sl2 {hi : FO} {l : Option Int} : kSl2 m hi ρ d l s = (hi ρ s).bind (kSl3 m d l) := (rfl)
@[simp] theorem e_sl3 {l u : Option Int} : kSl3 m d l u s = gSl m d l u s := (rfl)
@[simp] theorem e_no : fNo ρ s = .ok none s := (rfl)
def kSome (d : D) (s : S) : R (Option Int) := match d with
 | .int i => .ok (some i) s
 | _ => .bad
@[simp] theorem e_some {f : FE} : fSome f ρ s = (f ρ s).bind kSome := (rfl)
@[simp] theorem e_some1 : kSome (.int i) s = .ok (some i) s := (rfl)
@[simp] theorem e_tru {f : FE} : fTru f ρ s = (f ρ s).bind gTru := (rfl)
@[simp] theorem tru_bl : gTru (.bl b) s = .ok b s := (rfl)
@[simp] theorem tru_tup : gTru (.tup xs) s = .ok (!xs.isEmpty) s := by show R.ok (!(xs.map D.da).isEmpty) s = _; cases xs <;> rfl
@[simp] theorem tru_lst : gTru (.lst xs) s = .ok (!xs.isEmpty) s := by show R.ok (!(xs.map D.da).isEmpty) s = _; cases xs <;> rfl
@[simp] theorem e_cb {g : FF} {f : FA} : fCB g f ρ s = (f ρ s).bind g := (rfl)
def kCall (n : Nat) (F : FF) (ds : List D) (s : S) : R D := if ds.length = n then F ds s else .bad
@[simp] theorem e_call {n : Nat} {F : FF} {f : FA} : fCall n F f ρ s = (f ρ s).bind (kCall n F) := (rfl)
@[simp] theorem e_call1 {F : FF} : kCall 1 F [d] s = F [d] s := (rfl)
@[simp] theorem e_call2 {F : FF} : kCall 2 F [d, e] s = F [d, e] s := (rfl)
@[simp] theorem e_call3 {F : FF} {d3 : D} : kCall 3 F [d, e, d3] s = F [d, e, d3] s := (rfl)
@[simp] theorem e_call4 {F : FF} {d3 d4 : D} : kCall 4 F [d, e, d3, d4] s = F [d, e, d3, d4] s := (rfl)
@[simp] theorem e_call5 {F : FF} {d3 d4 d5 : D} : kCall 5 F [d, e, d3, d4, d5] s = F [d, e, d3, d4, d5] s := (rfl)
@[simp] theorem len_tup : gLen [.tup xs] s = .ok (.int xs.length) s := by show R.ok (D.int (xs.map D.da).length) s = _; rw [List.length_map]
@[simp] theorem len_lst : gLen [.lst xs] s = .ok (.int xs.length) s := by show R.ok (D.int (xs.map D.da).length) s = _; rw [List.length_map]
theorem len_str (h : x.length <= 16777216) : gLen [.str x] s = .ok (.int x.length) s := if_pos (by rw [sizeLine_eq']; exact h)
@[simp] theorem list_tupN : gList true [.tup xs] s = .ok (.ref s.length) (s ++ [.lst (xs.map D.da)]) := (rfl)
@[simp] theorem tuple_lst : gTuple [.lst xs] s = .ok (.tup xs) s := by
 show (match pures (xs.map D.da) with | some xs => R.ok (D.tup xs) s | none => .bad) = _
 rw [pures_da]
theorem repr_da {p : PyData} (h : okS p = true) : gRepr [.da p] s = .ok (.str p.shown) s := if_pos h
@[simp] theorem sl_tup {lo hi : Option Int} : gSl m (.tup xs) lo hi s = .ok (.tup (cutL xs lo hi)) s := (rfl)
theorem cutL_map {α β : Type} (f : α -> β) (l : List α) (lo hi : Option Int) : cutL (l.map f) lo hi = (cutL l lo hi).map f := by
 unfold cutL
 rw [List.length_map, List.map_take, List.map_drop]
@[simp] theorem sl_frz {lo hi : Option Int} : gSl false (.frz xs) lo hi s = .ok (.lst (cutL xs lo hi)) s := by
 show (match pures (cutL (xs.map D.da) lo hi) with | some xs => R.ok (D.lst xs) s | none => .bad) = _
 rw [cutL_map, pures_da]
def kBody (fl : Fl) (s : S) : R D := match fl with
 | .rt d => .ok d s
 | .nx _ => .ok .non s
 | _ => .bad
@[simp] theorem e_bodyr : kBody (.rt d) s = .ok d s := (rfl)
def kSetIt1 (fo fi : FE) (ρ : En) (v : D) (s : S) : R Fl := (fo ρ s).bind fun o s2 => (fi ρ s2).bind fun i s3 => (gSet o i v s3).bind fun _ s4 => .ok (.nx ρ) s4
def kSetIt2 (fi : FE) (ρ : En) (v o : D) (s : S) : R Fl := (fi ρ s).bind fun i s3 => (gSet o i v s3).bind fun _ s4 => .ok (.nx ρ) s4
def kSetIt3 (ρ : En) (v o i : D) (s : S) : R Fl := (gSet o i v s).bind fun _ s4 => .ok (.nx ρ) s4
@[simp] theorem e_setIt {fv fo fi : FE} : fSetIt fv fo fi ρ s = (fv ρ s).bind (kSetIt1 fo fi ρ) := (rfl)
@[simp] theorem e_setIt1 {fo fi : FE} : kSetIt1 fo fi ρ d s = (fo ρ s).bind (kSetIt2 fi ρ d) := (rfl)
@[simp] theorem e_setIt2 {fi : FE} : kSetIt2 fi ρ d e s = (fi ρ s).bind (kSetIt3 ρ d e) := (rfl)
@[simp] theorem e_setIt3 {o : D} : kSetIt3 ρ d e o s = (gSet e o d s).bind (kDrop ρ) := (rfl)
def kMt1 (g : GM) (fa : FA) (ρ : En) (d : D) (s : S) : R D := if (toL s d).isSome = true then (fa ρ s).bind fun ds s2 => g d ds s2 else .bad
def kMt2 (g : GM) (d : D) (ds : List D) (s : S) : R D := g d ds s
@[simp] theorem e_mt {g : GM} {fo : FE} {fa : FA} : fMt g fo fa ρ s = (fo ρ s).bind (kMt1 g fa ρ) := (rfl)
theorem e_mt1 {g : GM} {fa : FA} (h : s[n]? = some (.lst ds)) : kMt1 g fa ρ (.ref n) s = (fa ρ s).bind (kMt2 g (.ref n)) := by
 unfold kMt1
 rw [if_pos]
 ·rfl
 ·show ((match s[n]? with | some (O.lst ds) => some ds | _ => none) : Option (List D)).isSome = true
  rw [h]; rfl
@[simp] theorem e_mt2 {g : GM} : kMt2 g d ds s = g d ds s := (rfl)
theorem append_ok (h : s[n]? = some (.lst ds)) (hl : ds.length < 16777216) : gAppend (.ref n) [d] s = .ok .non (s.set n (.lst (ds ++ [d]))) := by
 show (match s[n]? with | some (O.lst xs) => (if xs.length < sizeLine then R.ok D.non (s.set n (.lst (xs ++ [d]))) else .bad) | _ => .bad) = _
 rw [h]
 show (if ds.length < sizeLine then _ else _) = _
 rw [if_pos (by rw [sizeLine_eq']; exact hl)]
theorem extend_lst (h : s[n]? = some (.lst ds)) (hl : ds.length + xs.length <= 16777216) : gExtend (.ref n) [.lst xs] s = .ok .non (s.set n (.lst (ds ++ xs.map D.da))) := by
 show (match s[n]? with | some (O.lst ys) => (if ys.length + (xs.map D.da).length <= sizeLine then R.ok D.non (s.set n (.lst (ys ++ xs.map D.da))) else .bad) | _ => .bad) = _
 rw [h]
 exact if_pos (by rw [sizeLine_eq', List.length_map]; exact hl)
def kFrz (d : D) (s : S) : R D := gFrz d s
@[simp] theorem e_frz {f : FE} : fFrz f ρ s = (f ρ s).bind kFrz := (rfl)
theorem frz_ref (h : s[n]? = some (.lst ds)) (h2 : pures ds = some xs) : kFrz (.ref n) s = .ok (.lst xs) (s.set n .gone) := by
 show (match s[n]? with | some (O.lst ds) => (match pures ds with | some xs => R.ok (D.lst xs) (s.set n .gone) | none => .bad) | _ => .bad) = _
 rw [h]
 show (match pures ds with | some xs => R.ok (D.lst xs) (s.set n .gone) | none => .bad) = _
 rw [h2]
def kAsg (g : Tg) (ρ : En) (d : D) (s : S) : R Fl := match setD g d ρ with
 | some ρ1 => .ok (.nx ρ1) s
 | none => .bad
@[simp] theorem e_asg {g : Tg} {f : FE} : fAsg g f ρ s = (f ρ s).bind (kAsg g ρ) := (rfl)
theorem e_asg1 {g : Tg} {ρ1 : En} (h : setD g d ρ = some ρ1) : kAsg g ρ d s = .ok (.nx ρ1) s := by unfold kAsg; rw [h]
noncomputable def kFor (g : Tg) (fb : FS) (ρ : En) (p : Wk) (s : S) : R Fl := chk p s (loopF g fb p p.1 ρ s)
@[simp] theorem e_for {fi : FI} {g : Tg} {fb : FS} : fFor fi g fb ρ s = (fi ρ s).bind (kFor g fb ρ) := (rfl)
@[simp] theorem e_for1 {g : Tg} {fb : FS} : kFor g fb ρ (ds, none) s = loopF g fb (ds, none) ds ρ s := chk_none
@[simp] theorem e_it {f : FE} : fIt f ρ s = (f ρ s).bind gIter := (rfl)
@[simp] theorem it_lst : gIter (.lst xs) s = .ok (xs.map D.da, none) s := (rfl)
@[simp] theorem it_tup : gIter (.tup xs) s = .ok (xs.map D.da, none) s := (rfl)
@[simp] theorem e_rng {f : FA} : fRng f ρ s = (f ρ s).bind gRng := (rfl)
theorem rng_ok (h : -(2 ^ 62) <= j) (h2 : j < 2 ^ 62) : gRng [.int j] s = .ok (rngD 0 j.toNat, none) s := if_pos ⟨h, h2⟩
noncomputable def kLoop (g : Tg) (fb : FS) (p : Wk) (r : List D) (fl : Fl) (s : S) : R Fl := match fl with
 | .nx ρ2 => chk p s (loopF g fb p r ρ2 s)
 | .ct ρ2 => chk p s (loopF g fb p r ρ2 s)
 | .bk ρ2 => .ok (.nx ρ2) s
 | .rt d => .ok (.rt d) s
theorem loop_cons {g : Tg} {fb : FS} {p : Wk} {r : List D} {ρ1 : En} (h : setD g d ρ = some ρ1) : loopF g fb p (d :: r) ρ s = (fb ρ1 s).bind (kLoop g fb p r) := by
 rw [loopF, h]; rfl
@[simp] theorem loop_nx {g : Tg} {fb : FS} {r : List D} : kLoop g fb (ds, none) r (.nx ρ) s = loopF g fb (ds, none) r ρ s := chk_none
@[simp] theorem loop_ct {g : Tg} {fb : FS} {r : List D} : kLoop g fb (ds, none) r (.ct ρ) s = loopF g fb (ds, none) r ρ s := chk_none
@[simp] theorem loop_bk {g : Tg} {fb : FS} {p : Wk} {r : List D} : kLoop g fb p r (.bk ρ) s = .ok (.nx ρ) s := (rfl)
@[simp] theorem loop_rt {g : Tg} {fb : FS} {p : Wk} {r : List D} : kLoop g fb p r (.rt d) s = .ok (.rt d) s := (rfl)
noncomputable def kLc (m : Bool) (js : List Nat) (k : Nat) (g : Tg) (ft : FT) (fe : FE) (ρ : En) (p : Wk) (s : S) : R D := if p.1.length <= sizeLine then chk p s ((compF g ft fe (List.replicate k none ++ capD ρ js) p p.1 s).bind fun ds s2 => newL m ds s2) else .bad
@[simp] theorem e_lc {js : List Nat} {k : Nat} {fi : FI} {g : Tg} {ft : FT} {fe : FE} : fLc m js k fi g ft fe ρ s = (fi ρ s).bind (kLc m js k g ft fe ρ) := (rfl)
def kNewL (m : Bool) (ds : List D) (s : S) : R D := newL m ds s
theorem e_lc1 {js : List Nat} {k : Nat} {g : Tg} {ft : FT} {fe : FE} {ρ0 : En} (h : ds.length <= 16777216) (e : List.replicate k none ++ capD ρ js = ρ0) : kLc m js k g ft fe ρ (ds, none) s = (compF g ft fe ρ0 (ds, none) ds s).bind (kNewL m) := by
 subst e
 unfold kLc
 rw [if_pos (by rw [sizeLine_eq']; exact h), chk_none]; rfl
@[simp] theorem e_newF : kNewL false (xs.map D.da) s = .ok (.lst xs) s := by
 show (match pures _ with | some xs => R.ok (D.lst xs) s | none => .bad) = _
 rw [pures_da]
@[simp] theorem comp_nil {g : Tg} {ft : FT} {fe : FE} {p : Wk} : compF g ft fe ρ p [] s = .ok [] s := (rfl)
noncomputable def kComp1 (g : Tg) (ft : FT) (fe : FE) (ρ0 : En) (p : Wk) (r : List D) (ρ1 : En) (b : Bool) (s2 : S) : R (List D) := if b = true then (fe ρ1 s2).bind fun x s3 => chk p s3 ((compF g ft fe ρ0 p r s3).bind fun xs s4 => .ok (x :: xs) s4) else chk p s2 (compF g ft fe ρ0 p r s2)
noncomputable def kComp2 (g : Tg) (ft : FT) (fe : FE) (ρ0 : En) (p : Wk) (r : List D) (x : D) (s3 : S) : R (List D) := chk p s3 ((compF g ft fe ρ0 p r s3).bind fun xs s4 => .ok (x :: xs) s4)
theorem comp_cons {g : Tg} {ft : FT} {fe : FE} {p : Wk} {r : List D} {ρ1 : En} (h : setD g d ρ = some ρ1) : compF g ft fe ρ p (d :: r) s = (ft ρ1 s).bind (kComp1 g ft fe ρ p r ρ1) := by
 rw [compF, h]; rfl
@[simp] theorem comp_t {g : Tg} {ft : FT} {fe : FE} {p : Wk} {r : List D} {ρ1 : En} : kComp1 g ft fe ρ p r ρ1 true s = (fe ρ1 s).bind (kComp2 g ft fe ρ p r) := (rfl)
@[simp] theorem comp_f {g : Tg} {ft : FT} {fe : FE} {r : List D} {ρ1 : En} : kComp1 g ft fe ρ (ds, none) r ρ1 false s = compF g ft fe ρ (ds, none) r s := chk_none
@[simp] theorem comp_x {g : Tg} {ft : FT} {fe : FE} {r : List D} : kComp2 g ft fe ρ (ds, none) r d s = (compF g ft fe ρ (ds, none) r s).bind (kCons2 d) := chk_none
@[simp] theorem e_yes : fYes ρ s = .ok true s := (rfl)
theorem tup5 {a0 a1 a2 a3 a4 : PyData} : kTup [.da a0, .da a1, .da a2, .da a3, .da a4] s = .ok (.tup [a0, a1, a2, a3, a4]) s := (rfl)
theorem lstN3 {a0 a1 a2 : D} : kLst true [a0, a1, a2] s = .ok (.ref s.length) (s ++ [.lst [a0, a1, a2]]) := (rfl)
theorem kLst_da (h : xs.length <= 16777216) : kLst false (xs.map D.da) s = .ok (.lst xs) s := kLst_ok (pures_da xs) (by rw [List.length_map]; exact h)
theorem kTup_da (h : xs.length <= 16777216) : kTup (xs.map D.da) s = .ok (.tup xs) s := kTup_ok (pures_da xs) (by rw [List.length_map]; exact h)
theorem it0 {a0 : PyData} {r : List PyData} : gIx (.tup (a0 :: r)) (.int 0) s = .ok (.da a0) s := gIx_tup (k := 0) rfl
theorem il0 {a0 : PyData} {r : List PyData} : gIx (.lst (a0 :: r)) (.int 0) s = .ok (.da a0) s := gIx_lst (k := 0) rfl
theorem it1 {a0 a1 : PyData} {r : List PyData} : gIx (.tup (a0 :: a1 :: r)) (.int 1) s = .ok (.da a1) s := gIx_tup (k := 1) rfl
theorem il1 {a0 a1 : PyData} {r : List PyData} : gIx (.lst (a0 :: a1 :: r)) (.int 1) s = .ok (.da a1) s := gIx_lst (k := 1) rfl
theorem it2 {a0 a1 a2 : PyData} {r : List PyData} : gIx (.tup (a0 :: a1 :: a2 :: r)) (.int 2) s = .ok (.da a2) s := gIx_tup (k := 2) rfl
theorem il2 {a0 a1 a2 : PyData} {r : List PyData} : gIx (.lst (a0 :: a1 :: a2 :: r)) (.int 2) s = .ok (.da a2) s := gIx_lst (k := 2) rfl
theorem it3 {a0 a1 a2 a3 : PyData} {r : List PyData} : gIx (.tup (a0 :: a1 :: a2 :: a3 :: r)) (.int 3) s = .ok (.da a3) s := gIx_tup (k := 3) rfl
theorem it4 {a0 a1 a2 a3 a4 : PyData} {r : List PyData} : gIx (.tup (a0 :: a1 :: a2 :: a3 :: a4 :: r)) (.int 4) s = .ok (.da a4) s := gIx_tup (k := 4) rfl
theorem l_set1 {r : En} {x0 y : Option D} : kSet 1 (x0 :: y :: r) d s = .ok (.nx (x0 :: some d :: r)) s := (rfl)
theorem l_set2 {r : En} {x0 x1 y : Option D} : kSet 2 (x0 :: x1 :: y :: r) d s = .ok (.nx (x0 :: x1 :: some d :: r)) s := (rfl)
theorem l_set3 {r : En} {x0 x1 x2 y : Option D} : kSet 3 (x0 :: x1 :: x2 :: y :: r) d s = .ok (.nx (x0 :: x1 :: x2 :: some d :: r)) s := (rfl)
theorem l_set4 {r : En} {x0 x1 x2 x3 y : Option D} : kSet 4 (x0 :: x1 :: x2 :: x3 :: y :: r) d s = .ok (.nx (x0 :: x1 :: x2 :: x3 :: some d :: r)) s := (rfl)
theorem l_set5 {r : En} {x0 x1 x2 x3 x4 y : Option D} : kSet 5 (x0 :: x1 :: x2 :: x3 :: x4 :: y :: r) d s = .ok (.nx (x0 :: x1 :: x2 :: x3 :: x4 :: some d :: r)) s := (rfl)
theorem l_set6 {r : En} {x0 x1 x2 x3 x4 x5 y : Option D} : kSet 6 (x0 :: x1 :: x2 :: x3 :: x4 :: x5 :: y :: r) d s = .ok (.nx (x0 :: x1 :: x2 :: x3 :: x4 :: x5 :: some d :: r)) s := (rfl)
theorem l_set7 {r : En} {x0 x1 x2 x3 x4 x5 x6 y : Option D} : kSet 7 (x0 :: x1 :: x2 :: x3 :: x4 :: x5 :: x6 :: y :: r) d s = .ok (.nx (x0 :: x1 :: x2 :: x3 :: x4 :: x5 :: x6 :: some d :: r)) s := (rfl)
theorem l_set8 {r : En} {x0 x1 x2 x3 x4 x5 x6 x7 y : Option D} : kSet 8 (x0 :: x1 :: x2 :: x3 :: x4 :: x5 :: x6 :: x7 :: y :: r) d s = .ok (.nx (x0 :: x1 :: x2 :: x3 :: x4 :: x5 :: x6 :: x7 :: some d :: r)) s := (rfl)
theorem l_set9 {r : En} {x0 x1 x2 x3 x4 x5 x6 x7 x8 y : Option D} : kSet 9 (x0 :: x1 :: x2 :: x3 :: x4 :: x5 :: x6 :: x7 :: x8 :: y :: r) d s = .ok (.nx (x0 :: x1 :: x2 :: x3 :: x4 :: x5 :: x6 :: x7 :: x8 :: some d :: r)) s := (rfl)
theorem l_set10 {r : En} {x0 x1 x2 x3 x4 x5 x6 x7 x8 x9 y : Option D} : kSet 10 (x0 :: x1 :: x2 :: x3 :: x4 :: x5 :: x6 :: x7 :: x8 :: x9 :: y :: r) d s = .ok (.nx (x0 :: x1 :: x2 :: x3 :: x4 :: x5 :: x6 :: x7 :: x8 :: x9 :: some d :: r)) s := (rfl)
theorem l_set12 {r : En} {x0 x1 x2 x3 x4 x5 x6 x7 x8 x9 x10 x11 y : Option D} : kSet 12 (x0 :: x1 :: x2 :: x3 :: x4 :: x5 :: x6 :: x7 :: x8 :: x9 :: x10 :: x11 :: y :: r) d s = .ok (.nx (x0 :: x1 :: x2 :: x3 :: x4 :: x5 :: x6 :: x7 :: x8 :: x9 :: x10 :: x11 :: some d :: r)) s := (rfl)
end
@[simp] theorem R.bind_ok' {α β : Type} (a : α) (s : S) (f : α -> S -> R β) : (R.ok a s).bind f = f a s := (rfl)
@[simp] theorem R.W_ok' {α : Type} (a : α) (s : S) (Q : α -> S -> Prop) : (R.ok a s).W Q = Q a s := (rfl)
end PF
namespace PF
open PySem PySem.Spec
open L2
def flW (J : En -> S -> Prop) (Q : Fl -> S -> Prop) (fl : Fl) (s : S) : Prop := match fl with
 | .nx ρ => J ρ s
 | .ct ρ => J ρ s
 | .bk ρ => Q (.nx ρ) s
 | .rt d => Q (.rt d) s
theorem loop_inv {g : Tg} {fb : FS} {all : List D} {Q : Fl -> S -> Prop} (J : List D -> En -> S -> Prop)
  (step : ∀ d r ρ s, J (d :: r) ρ s -> ∃ ρ1, setD g d ρ = some ρ1 /\ (fb ρ1 s).W (flW (J r) Q)) (fin : ∀ ρ s, J [] ρ s -> Q (.nx ρ) s) :
  ∀ (ds : List D) (ρ : En) (s : S), J ds ρ s -> (loopF g fb (all, none) ds ρ s).W Q
 | [], ρ, s, h => fin ρ s h
 | d :: r, ρ, s, h => by
  obtain ⟨ρ1, e, w⟩ := step d r ρ s h
  rw [loop_cons e, R.W_bind]
  refine R.W_mono w fun fl s1 q => ?_
  cases fl with
  | nx ρ2 => rw [loop_nx]; exact loop_inv J step fin r ρ2 s1 q
  | ct ρ2 => rw [loop_ct]; exact loop_inv J step fin r ρ2 s1 q
  | bk ρ2 => rw [loop_bk]; exact q
  | rt d => rw [loop_rt]; exact q
theorem comp_inv {g : Tg} {ft : FT} {fe : FE} {ρ0 : En} {all : List D} {Q : List D -> S -> Prop} (J : List D -> List D -> S -> Prop)
  (step : ∀ d r acc s, J (d :: r) acc s -> ∃ ρ1, setD g d ρ0 = some ρ1 /\ (ft ρ1 s).W fun b s2 => if b = true then (fe ρ1 s2).W fun x s3 => J r (acc ++ [x]) s3 else J r acc s2) (fin : ∀ acc s, J [] acc s -> Q acc s) :
  ∀ (ds acc : List D) (s : S), J ds acc s -> (compF g ft fe ρ0 (all, none) ds s).W fun xs s' => Q (acc ++ xs) s'
 | [], acc, s, h => by
  rw [comp_nil, R.W_ok, List.append_nil]
  exact fin acc s h
 | d :: r, acc, s, h => by
  obtain ⟨ρ1, e, w⟩ := step d r acc s h
  rw [comp_cons e, R.W_bind]
  refine R.W_mono w fun b s1 q => ?_
  cases b with
  | false =>
   rw [comp_f]
   rw [if_neg Bool.false_ne_true] at q
   exact comp_inv J step fin r acc s1 q
  | true =>
   rw [comp_t, R.W_bind]
   rw [if_pos rfl] at q
   refine R.W_mono q fun x s2 q2 => ?_
   rw [comp_x, R.W_bind]
   refine R.W_mono (comp_inv J step fin r (acc ++ [x]) s2 q2) fun xs s3 q3 => ?_
   rw [e_cons2, R.W_ok]
   rw [List.append_assoc] at q3
   exact q3
structure Ext (s s' : S) : Prop where
 ex : ∃ g, s' = s ++ g
theorem Ext.refl (s : S) : Ext s s := ⟨[], by simp⟩
theorem Ext.trans {a b c : S} (h1 : Ext a b) (h2 : Ext b c) : Ext a c := by
 obtain ⟨g, rfl⟩ := h1.ex
 obtain ⟨k, rfl⟩ := h2.ex
 exact ⟨g ++ k, by rw [List.append_assoc]⟩
theorem Ext.add (s g : S) : Ext s (s ++ g) := ⟨g, rfl⟩
theorem Ext.len {s s' : S} (h : Ext s s') : s.length <= s'.length := by obtain ⟨g, rfl⟩ := h.ex; simp
theorem Ext.get {s s' : S} (h : Ext s s') {k : Nat} {o : O} (e : s[k]? = some o) : s'[k]? = some o := by
 obtain ⟨g, rfl⟩ := h.ex
 rw [List.getElem?_append_left (List.getElem?_eq_some_iff.mp e).1]; exact e
theorem Ext.getE {s s' : S} (h : Ext s s') {k : Nat} (e : k < s.length) : s'[k]? = s[k]? := by
 obtain ⟨g, rfl⟩ := h.ex
 rw [List.getElem?_append_left e]
structure Same (n : Nat) (s s' : S) : Prop where
 len : s.length <= s'.length
 get : ∀ k, k ≠ n -> k < s.length -> s'[k]? = s[k]?
theorem Same.refl (n : Nat) (s : S) : Same n s s := ⟨Nat.le_refl _, fun _ _ _ => rfl⟩
theorem Same.trans {n : Nat} {a b c : S} (h1 : Same n a b) (h2 : Same n b c) : Same n a c := ⟨Nat.le_trans h1.len h2.len, fun k hk hl => (h2.get k hk (Nat.lt_of_lt_of_le hl h1.len)).trans (h1.get k hk hl)⟩
theorem Ext.same {s s' : S} (h : Ext s s') (n : Nat) : Same n s s' := ⟨h.len, fun _ _ hl => h.getE hl⟩
theorem same_set {n : Nat} {s : S} {o : O} : Same n s (s.set n o) := ⟨by simp, fun k hk hl => List.getElem?_set_ne (Ne.symm hk)⟩
theorem Same.own {n k : Nat} {s s' : S} {o : O} (h : Same n s s') (hk : s.length <= k) : Same n s (s'.set k o) := ⟨by simpa using h.len, fun j hj hl => by rw [List.getElem?_set_ne (by omega)]; exact h.get j hj hl⟩
theorem set_self {α : Type} {s : List α} {n : Nat} {o : α} (e : s[n]? = some o) : s.set n o = s := by
 apply List.ext_getElem?
 intro i
 by_cases z : n = i
 ·subst z
  have hl := (List.getElem?_eq_some_iff.mp e).1
  rw [List.getElem?_set_self hl, e]
 ·rw [List.getElem?_set_ne z]
structure Nice (B D : Nat) (d : PyData) : Prop where
 ls : d.leavesShort 13 = true
 sh : d.showable = true
 cl : d.canLay0 = true
 bk : d.bulk <= B
 dp : d.depth <= D
structure Nices (B D : Nat) (ds : List PyData) : Prop where
 ls : PyData.leavesShortAll 13 ds = true
 sh : PyData.showableAll ds = true
 cl : PyData.canLayAll0 ds = true
 bk : PyData.bulkAll ds <= B
 dp : PyData.depthAll ds <= D
theorem Nice.mono {B D B' D' : Nat} {d : PyData} (h : Nice B D d) (hb : B <= B') (hd : D <= D') : Nice B' D' d := ⟨h.ls, h.sh, h.cl, Nat.le_trans h.bk hb, Nat.le_trans h.dp hd⟩
theorem Nices.mono {B D B' D' : Nat} {ds : List PyData} (h : Nices B D ds) (hb : B <= B') (hd : D <= D') : Nices B' D' ds := ⟨h.ls, h.sh, h.cl, Nat.le_trans h.bk hb, Nat.le_trans h.dp hd⟩
theorem Nices.nil {D : Nat} : Nices 0 D [] := ⟨rfl, rfl, rfl, Nat.le_refl _, Nat.zero_le _⟩
theorem Nices.cons {B B' D : Nat} {d : PyData} {ds : List PyData} (h : Nice B D d) (t : Nices B' D ds) : Nices (B + 1 + B') D (d :: ds) := by
 obtain ⟨a1, a2, a5, a3, a4⟩ := h
 obtain ⟨b1, b2, b5, b3, b4⟩ := t
 refine ⟨?_, ?_, ?_, ?_, ?_⟩
 ·simp only [PyData.leavesShortAll, a1, b1, Bool.and_self]
 ·simp only [PyData.showableAll, a2, b2, Bool.and_self]
 ·simp only [PyData.canLayAll0, a5, b5, Bool.and_self]
 ·simp only [PyData.bulkAll]; omega
 ·simp only [PyData.depthAll]; omega
theorem Nices.tup {B D : Nat} {ds : List PyData} (h : Nices B D ds) : Nice B (D + 1) (.tuple ds) := by
 obtain ⟨b1, b2, b5, b3, b4⟩ := h
 refine ⟨?_, ?_, ?_, ?_, ?_⟩
 ·simpa only [PyData.leavesShort] using b1
 ·simpa only [PyData.showable] using b2
 ·simpa only [PyData.canLay0] using b5
 ·simpa only [PyData.bulk] using b3
 ·simp only [PyData.depth]; omega
theorem Nices.lst {B D : Nat} {ds : List PyData} (h : Nices B D ds) : Nice B (D + 1) (.list ds) := by
 obtain ⟨b1, b2, b5, b3, b4⟩ := h
 refine ⟨?_, ?_, ?_, ?_, ?_⟩
 ·simpa only [PyData.leavesShort] using b1
 ·simpa only [PyData.showable] using b2
 ·simpa only [PyData.canLay0] using b5
 ·simpa only [PyData.bulk] using b3
 ·simp only [PyData.depth]; omega
theorem Nice.okS {B D : Nat} {d : PyData} (h : Nice B D d) (hb : B <= 1048576) (hd : D <= 64) : okS d = true := by
 unfold PF.okS
 (simp only [Bool.and_eq_true, decide_eq_true_eq])
 exact ⟨⟨⟨h.cl, h.sh⟩, Nat.le_trans h.dp hd⟩, PyData.shown_fits_bulk (by decide) (by decide) h.ls (Nat.le_trans h.bk hb)⟩
theorem Nice.okD {B D : Nat} {d : PyData} (h : Nice B D d) (hd : D <= 64) : okD d = true := by
 unfold PF.okD
 rw [Bool.and_eq_true]
 exact ⟨h.cl, decide_eq_true (Nat.le_trans h.dp hd)⟩
theorem nices_all {B D : Nat} : ∀ (ds : List PyData), (∀ d ∈ ds, Nice B D d) -> Nices ((B + 1) * ds.length) D ds
 | [], _ => Nices.nil
 | d :: r, h => by
  refine (Nices.cons (h d List.mem_cons_self) (nices_all r fun y hy => h y (List.mem_cons_of_mem _ hy))).mono ?_ (Nat.le_refl _)
  rw [List.length_cons, Nat.mul_add]; omega
theorem nice_none : Nice 0 0 .none := ⟨rfl, rfl, rfl, Nat.le_refl _, by simp [PyData.depth]⟩
theorem nice_int {i : Int} (h0 : i.natAbs < 10 ^ 12) : Nice 0 0 (.int i) := by
 refine ⟨?_, ?_, rfl, Nat.le_refl _, by simp [PyData.depth]⟩
 ·simp only [PyData.leavesShort, decide_eq_true_eq]
  exact PyData.shown_int_le h0
 ·simp only [PyData.showable, decide_eq_true_eq]
  have : i.natAbs.log2 <= i.natAbs := Nat.log2_le_self _
  by_cases z : i.natAbs = 0
  ·rw [z]; decide
  ·have h2 : i.natAbs < 2 ^ 40 := by omega
   have := (Nat.log2_lt z).mpr h2
   omega
def okPort (x : Str) : Bool := (decide (0 < x.length) && decide (x.length <= 20)) && x.cps.toList.all fun c => decide (32 <= c) && decide (c < 127)
theorem nice_str {x : Str} (h : okPort x = true) : Nice 20 0 (.str x) := by
 unfold okPort at h
 simp only [Bool.and_eq_true, decide_eq_true_eq, List.all_eq_true] at h
 refine ⟨?_, rfl, ?_, h.1.2, by simp [PyData.depth]⟩
 ·simp only [PyData.leavesShort, List.all_eq_true, decide_eq_true_eq]
  intro c hc
  have := (h.2 c hc).2
  have e16 : (16 : Nat) ^ 8 = 4294967296 := by decide
  omega
 ·simp only [PyData.canLay0]
  unfold PyData.strOk
  (rw [← Array.all_toList, List.all_eq_true])
  intro c hc
  have := (h.2 c hc).2
  (exact decide_eq_true (by omega))
theorem nices_strs : ∀ (xs : List Str), (∀ x ∈ xs, okPort x = true) -> Nices (21 * xs.length) 0 (xs.map .str)
 | [], _ => Nices.nil
 | x :: r, h => by
  refine (Nices.cons (nice_str (h x List.mem_cons_self)) (nices_strs r fun y hy => h y (List.mem_cons_of_mem _ hy))).mono ?_ (Nat.le_refl _)
  rw [List.length_cons]; omega
end PF
namespace PF
open PySem PySem.Spec
open L2
open PyProof.Rows (envOfC)
section
variable {P : Program} {w : World} {K : PySem.W.Frag} {mg : Str -> Option Value} {base : Heap} {x : Str} {st : Stmt} {N ps : List Str} {k : Nat}
theorem fnF {f : Addr} {fd : FuncData} (F : Fun K x x st f fd) (S : FnScope N ps (defScope st)) {m n : Nat} {fb : FS} (hm : N.length = m) (hn : ps.length = n)
  (hbody : ∀ (f : Addr) (cdv : Value) (A : Around) (outer : List Env) (s : Shared) (H : Hp) (E : XK), Room k (A.deeper (envOfC x (defScope st) s.heap.objs.size f cdv)) ->
   RSs (cxOf CX0 P w K mg base N x (defScope st) f cdv A outer s H E).nox (defBody st) fb) : FnOk P w K mg base CX0 (k + 1) f fd ps (spF K n (bodyF m fb)) := by
 refine F.ok S (fun vs H Q E h => by rw [hn]; exact h.1) fun cdv A outer s H vs Q E hr h => ?_
 obtain ⟨hv, as, ds, s', rl, rs, h⟩ := h
 obtain ⟨t, p, r⟩ := (hbody f cdv A outer s H E hr).ex
 refine ⟨t, p, ?_⟩
 have en : Envs K as H (ds.map some ++ List.replicate (m - ds.length) none) (L2.start N vs) := by rw [← hm]; exact start_envs rs
 refine r as _ H _ s' _ rl en (Dn.bind h fun fl s1 as1 H1 fv st1 rl1 r1 h1 => ?_)
 cases r1 with
 | nx e => exact Dn.now (Q := Q) h1 rl1 (.da .non)
 | rt e => exact Dn.now (Q := Q) h1 rl1 e
 | bk e => exact h1.elim
 | ct e => exact h1.elim
theorem law_of {f : Addr} {fd : FuncData} {F : FF} (h : FnOk P w K mg base CX0 k f fd ps (spF K 1 F)) (ht : ∀ ns : List Int, ns.length <= 63 -> (F [.frz (ns.map PyData.int)] []).W fun d _ => d = .bl true) : FnOk P w K mg base CX0 k f fd ps (spLaw K) := by
 refine h.imp fun vs H Q E q => ?_
 obtain ⟨a, ns, rfl, hS, hl, hq⟩ := q
 have R0 : Rel K ⟨[], []⟩ H [] := ⟨rfl, fun i j p e => by simp at e, fun n p o e => by simp at e, fun n o e => by simp at e, fun p hp => by simp at hp, fun p hp => by simp at hp⟩
 refine ⟨rfl, ⟨[], []⟩, [.frz (ns.map PyData.int)], [], R0, .cons (.frz (fun as' H' st => ?_) (TDs.ints ns)) .nil, ?_⟩
 ·exact L2.Same.seq (fun b o hb => st.keep b o (by simp [As.has]) hb) hS
 ·have t := ht ns hl
  cases hr : F [.frz (ns.map PyData.int)] [] with
  | ok d s =>
   rw [hr] at t
   intro b as' H' st rl rb
   have : d = .bl true := t
   subst this
   cases rb with
   | da z => cases z; exact hq _
  | bad => rw [hr] at t; exact t
end
end PF
namespace PF
open PySem PySem.Spec
open PySem.SeqAt
open AutoSeq1 (wpAny_loadPart') --
open MeetsSeq MeetsSeq2 MeetsSeq3 SeqRoads2 --
def LtAt (A : Around) (s : Shared) (x y : Value) (b : Bool) : Prop := ∀ (prog : Program) (w : World) (E : Value -> Shared -> Prop) (Q : Value -> Shared -> Prop), Q (.bool b) s -> wpAny (model prog w) A (richCompare .Lt x y) Q E s
inductive LexAt (A : Around) (s : Shared) (fin : Bool) : List (Value × Value) -> Bool -> Prop
 | nil : LexAt A s fin [] fin
 | same {x y : Value} {r : List (Value × Value)} {b : Bool} : EqAt A s x y true -> LexAt A s fin r b -> LexAt A s fin ((x, y) :: r) b
 | diff {x y : Value} {r : List (Value × Value)} {b : Bool} : EqAt A s x y false -> LtAt A s x y b -> LexAt A s fin ((x, y) :: r) b
theorem tup_lt (l b : Addr) (us ws : Array Value) (n n2 : Nat) (dd dd2 : Option Addr) (sl sl2 : Array (Option Value)) (r : Bool) :
  Meets (Builtin.«tuple.__lt__» ⟨[.ref l, .ref b], []⟩)
   (fun A R s => s.heap.get? l = some { cls := .type "tuple", dict := dd, data := .seq us n, slots := sl } /\ s.heap.get? b = some { cls := .type "tuple", dict := dd2, data := .seq ws n2, slots := sl2 } /\
    LexAt A.in1 s (decide (us.size < ws.size)) (us.toList.zip ws.toList) r /\ R (.ok (.ret (.bool r))) s) :=
 .of_wp fun prog w A R s h => by
  (obtain ⟨hp, g, d, tk, os⟩ := s)
  obtain ⟨hl, hb, lx, hR⟩ := h
  have sub := AutoSeq1.sub_tuple_tuple
  wp_walk using wpAny_loadPart' hl, wpAny_loadPart' hb, wpAny_forIn_list _ (fun rest b s' => b.1 = none /\ s' = ⟨hp, g, d, tk, os⟩ /\ LexAt A.in1 ⟨hp, g, d, tk, os⟩ (decide (us.size < ws.size)) rest r) _
  case turn =>
   rintro ⟨y, x⟩ rest b s' ⟨hb', rfl, lx⟩
   cases lx with
   | same e t =>
    refine wpAny_bind (e prog w _ _ ?_)
    wp_walk
    exact ⟨rfl, rfl, t⟩
   | diff e t =>
    refine wpAny_bind (e prog w _ _ ?_)
    have t' : ∀ (E : Value -> Shared -> Prop) (Q : Value -> Shared -> Prop), Q (.bool r) ⟨hp, g, d, tk, os⟩ -> wpAny (model prog w) A.in1 (richCompare .Lt y x) Q E ⟨hp, g, d, tk, os⟩ := fun E Q => t prog w E Q
    generalize richCompare .Lt y x = m at t' ⊢
    wp_walk
    refine t' _ _ ?_
    wp_walk
    exact ⟨_, rfl, hR⟩
  case fin =>
   rintro ⟨b1, b2⟩ s' ⟨hb', rfl, lx⟩
   simp only at hb'
   subst hb'
   cases lx
   wp_walk
   exact ⟨_, rfl, by simpa [Builtin.Tuple.tupleCompareSizes] using hR⟩
  case h => exact ⟨rfl, rfl, lx⟩
section
variable {A : Around} {s : Shared} --
theorem LtAt.tuples {l b : Addr} {us ws : Array Value} {r : Bool} (hl : s.heap.IsTuple l us) (hb : s.heap.IsTuple b ws) (hu : A.units < cLine) (lx : LexAt A.in1 s (decide (us.size < ws.size)) (us.toList.zip ws.toList) r) : LtAt A s (.ref l) (.ref b) r := fun prog w E Q h => by
 obtain ⟨⟨c1, d1, e1, s1⟩, o1, k1, n1, q1⟩ := id hl
 obtain ⟨⟨c2, d2, e2, s2⟩, o2, k2, n2, q2⟩ := id hb
 simp only at k1 q1 k2 q2
 subst k1 q1 k2 q2
 exact richCompare_meets_room (op := .Lt) ⟨_, o1, rfl⟩ ⟨_, o2, rfl⟩ F.slot_tuple_lt F.entry_tuple_lt (F.args_tuple_lt_2 _ _) (tup_lt l b us ws n1 n2 d1 d2 s1 s2 r) ⟨o1, o2, lx, show Value.bool r ≠ Value.notImplemented /\ Q (.bool r) s from ⟨nofun, h⟩⟩ hu
end
mutual
def ltP : PyData -> PyData -> Option Bool
 | .int i, .int j => some (decide (i < j))
 | .str a, .str b => some (decide (a.cps.toList < b.cps.toList))
 | .tuple xs, .tuple ys => ltPs xs ys
 | _, _ => none
def ltPs : List PyData -> List PyData -> Option Bool
 | [], [] => some false
 | [], _ :: _ => some true
 | _ :: _, [] => some false
 | x :: xs, y :: ys => if PyData.eqv x y = true then ltPs xs ys else ltP x y
end
theorem ltPs_nil_nil : ltPs [] [] = some false := by simp only [ltPs]
theorem ltPs_nil_cons {y : PyData} {ys : List PyData} : ltPs [] (y :: ys) = some true := by simp only [ltPs]
theorem ltPs_cons_nil {y : PyData} {ys : List PyData} : ltPs (y :: ys) [] = some false := by simp only [ltPs]
theorem ltPs_cons {x y : PyData} {xs ys : List PyData} : ltPs (x :: xs) (y :: ys) = if PyData.eqv x y = true then ltPs xs ys else ltP x y := by simp only [ltPs]
theorem ltP_int {i j : Int} : ltP (.int i) (.int j) = some (decide (i < j)) := by simp only [ltP]
theorem ltP_str {a b : Str} : ltP (.str a) (.str b) = some (decide (a.cps.toList < b.cps.toList)) := by simp only [ltP]
theorem ltP_tup {xs ys : List PyData} : ltP (.tuple xs) (.tuple ys) = ltPs xs ys := by simp only [ltP]
end PF
namespace PF
open PySem PySem.Spec
open PySem.SeqAt
mutual
theorem ltAt_reads : ∀ (da db : PyData) (A : Around) (s : Shared) (a b : Value) (as bs : List Addr) (r : Bool), Reads s.heap a da as -> Reads s.heap b db bs -> da.canLay0 = true -> db.canLay0 = true -> A.units + min da.depth db.depth < cLine -> ltP da db = some r -> LtAt A s a b r
 | .int i, db, A, s, _, _, _, _, r, ra, rb, _, _, _, h => by
  cases db with
  | int j =>
   rw [ltP_int] at h
   cases h
   cases ra; cases rb
   exact fun prog w E Q q => PyProof.Rows.lt_int q
  | none => simp [ltP] at h
  | bool _ => simp [ltP] at h
  | str _ => simp [ltP] at h
  | list _ => simp [ltP] at h
  | tuple _ => simp [ltP] at h
  | dict _ => simp [ltP] at h
 | .str x, db, A, s, _, _, _, _, r, ra, rb, _, _, _, h => by
  cases db with
  | str j =>
   rw [ltP_str] at h
   cases h
   cases ra; cases rb
   exact fun prog w E Q q => PyProof.Rows.lt_str q
  | none => simp [ltP] at h
  | bool _ => simp [ltP] at h
  | int _ => simp [ltP] at h
  | list _ => simp [ltP] at h
  | tuple _ => simp [ltP] at h
  | dict _ => simp [ltP] at h
 | .tuple xs, db, A, s, _, _, _, _, r, ra, rb, ha, hb, hu, h => by
  cases db with
  | tuple ys =>
   rw [ltP_tup] at h
   cases ra with
   | tuple h1 h2 h3 h4 =>
    cases rb with
    | tuple k1 k2 k3 k4 =>
     refine LtAt.tuples ⟨_, h1, h2, _, h3⟩ ⟨_, k1, k2, _, k3⟩ (room_here hu) ?_
     have t := lexAt_reads xs ys A.in1 s _ _ _ _ r h4 k4 ha hb (room_in hu) h
     simpa using t
  | none => simp [ltP] at h
  | bool _ => simp [ltP] at h
  | int _ => simp [ltP] at h
  | list _ => simp [ltP] at h
  | str _ => simp [ltP] at h
  | dict _ => simp [ltP] at h
 | .none, _, _, _, _, _, _, _, _, _, _, _, _, _, h => by simp [ltP] at h
 | .bool _, _, _, _, _, _, _, _, _, _, _, _, _, _, h => by simp [ltP] at h
 | .list _, _, _, _, _, _, _, _, _, _, _, _, _, _, h => by simp [ltP] at h
 | .dict _, _, _, _, _, _, _, _, _, _, _, ha, _, _, _ => nomatch ha
theorem lexAt_reads : ∀ (xs ys : List PyData) (A : Around) (s : Shared) (vs ws : List Value) (as bs : List Addr) (r : Bool), ReadsAll s.heap vs xs as -> ReadsAll s.heap ws ys bs -> PyData.canLayAll0 xs = true -> PyData.canLayAll0 ys = true -> A.units + min (PyData.depthAll xs) (PyData.depthAll ys) < cLine -> ltPs xs ys = some r -> LexAt A s (decide (vs.length < ws.length)) (vs.zip ws) r
 | [], [], A, s, _, _, _, _, r, ra, rb, _, _, _, h => by
  cases ra; cases rb
  rw [ltPs_nil_nil] at h
  cases h
  exact .nil
 | [], _ :: _, A, s, _, _, _, _, r, ra, rb, _, _, _, h => by
  cases ra; cases rb
  rw [ltPs_nil_cons] at h
  cases h
  simpa using LexAt.nil (A := A) (s := s) (fin := true)
 | _ :: _, [], A, s, _, _, _, _, r, ra, rb, _, _, _, h => by
  cases ra; cases rb
  rw [ltPs_cons_nil] at h
  cases h
  simpa using LexAt.nil (A := A) (s := s) (fin := false)
 | x :: xs, y :: ys, A, s, _, _, _, _, r, ra, rb, ha, hb, hu, h => by
  have ha' : x.canLay0 = true /\ PyData.canLayAll0 xs = true := by simpa [PyData.canLayAll0] using ha
  have hb' : y.canLay0 = true /\ PyData.canLayAll0 ys = true := by simpa [PyData.canLayAll0] using hb
  rw [ltPs_cons] at h
  cases ra with
  | cons r1 rs =>
   cases rb with
   | cons r2 rs2 =>
    have e := eqAt_reads x y A s _ _ _ _ r1 r2 ha'.1 hb'.1 (room_head hu)
    rw [List.zip_cons_cons, List.length_cons, List.length_cons]
    by_cases q : PyData.eqv x y = true
    ·rw [if_pos q] at h
     rw [q] at e
     have t := lexAt_reads xs ys A s _ _ _ _ r rs rs2 ha'.2 hb'.2 (room_tail hu) h
     refine .same e ?_
     simpa using t
    ·rw [if_neg q] at h
     rw [Bool.not_eq_true] at q
     rw [q] at e
     exact .diff e (ltAt_reads x y A s _ _ _ _ r r1 r2 ha'.1 hb'.1 (room_head hu) h)
end
end PF
namespace PF
open PySem PySem.Spec
theorem lts_ne {x y : PyData} {xs ys : List PyData} (hx : plD x = true) (hy : plD y = true) (h : x ≠ y) : ltPs (x :: xs) (y :: ys) = ltP x y := by
 rw [ltPs_cons, if_neg (fun z => h ((eqv_pl x y hx hy).mp z))]
theorem lts_eq {x : PyData} {xs ys : List PyData} (hx : plD x = true) : ltPs (x :: xs) (x :: ys) = ltPs xs ys := by
 rw [ltPs_cons, if_pos (eqv_self hx)]
mutual
theorem lt_irr : ∀ a : PyData, plD a = true -> ltP a a ≠ some true
 | .none, _ => by simp [ltP]
 | .int i, _ => by simp [ltP]
 | .str i, _ => by rw [ltP_str]; simp [List.lt_irrefl]
 | .tuple xs, h => by rw [ltP_tup]; exact lts_irr xs (by rw [← plD_tup]; exact h)
 | .bool _, h => by simp [plD] at h
 | .list _, h => by simp [plD] at h
 | .dict _, h => by simp [plD] at h
theorem lts_irr : ∀ xs : List PyData, plDs xs = true -> ltPs xs xs ≠ some true
 | [], _ => by rw [ltPs_nil_nil]; simp
 | x :: xs, h => by
  rw [plDs_cons, Bool.and_eq_true] at h
  rw [lts_eq h.1]
  exact lts_irr xs h.2
end
mutual
theorem lt_as : ∀ a b : PyData, plD a = true -> plD b = true -> ltP a b = some true -> ltP b a = some false
 | .int i, b, _, hb, h => by
  cases b <;> simp [ltP] at h ⊢
  omega
 | .str i, b, _, hb, h => by
  cases b <;> simp [ltP] at h ⊢
  exact List.le_of_lt h
 | .tuple xs, .tuple ys, ha, hb, h => by
  rw [ltP_tup] at h ⊢
  exact lts_as xs ys (by rw [← plD_tup]; exact ha) (by rw [← plD_tup]; exact hb) h
 | .tuple xs, .none, _, _, h => by simp [ltP] at h
 | .tuple xs, .int _, _, _, h => by simp [ltP] at h
 | .tuple xs, .str _, _, _, h => by simp [ltP] at h
 | .tuple xs, .bool _, _, hb, _ => by simp [plD] at hb
 | .tuple xs, .list _, _, hb, _ => by simp [plD] at hb
 | .tuple xs, .dict _, _, hb, _ => by simp [plD] at hb
 | .none, _, _, _, h => by simp [ltP] at h
 | .bool _, _, ha, _, _ => by simp [plD] at ha
 | .list _, _, ha, _, _ => by simp [plD] at ha
 | .dict _, _, ha, _, _ => by simp [plD] at ha
theorem lts_as : ∀ xs ys : List PyData, plDs xs = true -> plDs ys = true -> ltPs xs ys = some true -> ltPs ys xs = some false
 | [], [], _, _, h => by rw [ltPs_nil_nil] at h; cases h
 | [], _ :: _, _, _, h => by rw [ltPs_cons_nil]
 | _ :: _, [], _, _, h => by rw [ltPs_cons_nil] at h; cases h
 | x :: xs, y :: ys, ha, hb, h => by
  rw [plDs_cons, Bool.and_eq_true] at ha hb
  by_cases e : x = y
  ·subst e
   rw [lts_eq ha.1] at h ⊢
   exact lts_as xs ys ha.2 hb.2 h
  ·rw [lts_ne ha.1 hb.1 e] at h
   rw [lts_ne hb.1 ha.1 (Ne.symm e)]
   exact lt_as x y ha.1 hb.1 h
end
theorem lt_ne {a b : PyData} (ha : plD a = true) (h : ltP a b = some true) : a ≠ b := fun e => by subst e; exact lt_irr a ha h
mutual
theorem lt_tot : ∀ a b : PyData, plD a = true -> plD b = true -> ltP a b = some false -> a = b \/ ltP b a = some true
 | .int i, b, _, hb, h => by
  cases b <;> simp [ltP] at h ⊢
  omega
 | .str i, b, _, hb, h => by
  cases b with
  | str j =>
   simp [ltP] at h ⊢
   rcases List.le_iff_lt_or_eq.mp h with z | z
   ·exact .inr z
   ·refine .inl ?_
    cases i; cases j
    simp at z
    simp [z]
  | _ => simp [ltP] at h
 | .tuple xs, .tuple ys, ha, hb, h => by
  rw [ltP_tup] at h ⊢
  rcases lts_tot xs ys (by rw [← plD_tup]; exact ha) (by rw [← plD_tup]; exact hb) h with z | z
  ·exact .inl (by rw [z])
  ·exact .inr z
 | .tuple xs, .none, _, _, h => by simp [ltP] at h
 | .tuple xs, .int _, _, _, h => by simp [ltP] at h
 | .tuple xs, .str _, _, _, h => by simp [ltP] at h
 | .tuple xs, .bool _, _, hb, _ => by simp [plD] at hb
 | .tuple xs, .list _, _, hb, _ => by simp [plD] at hb
 | .tuple xs, .dict _, _, hb, _ => by simp [plD] at hb
 | .none, _, _, _, h => by simp [ltP] at h
 | .bool _, _, ha, _, _ => by simp [plD] at ha
 | .list _, _, ha, _, _ => by simp [plD] at ha
 | .dict _, _, ha, _, _ => by simp [plD] at ha
theorem lts_tot : ∀ xs ys : List PyData, plDs xs = true -> plDs ys = true -> ltPs xs ys = some false -> xs = ys \/ ltPs ys xs = some true
 | [], [], _, _, h => .inl rfl
 | [], _ :: _, _, _, h => by rw [ltPs_nil_cons] at h; cases h
 | _ :: _, [], _, _, h => .inr ltPs_nil_cons
 | x :: xs, y :: ys, ha, hb, h => by
  rw [plDs_cons, Bool.and_eq_true] at ha hb
  by_cases e : x = y
  ·subst e
   rw [lts_eq ha.1] at h ⊢
   rcases lts_tot xs ys ha.2 hb.2 h with z | z
   ·exact .inl (by rw [z])
   ·exact .inr z
  ·rw [lts_ne ha.1 hb.1 e] at h
   rw [lts_ne hb.1 ha.1 (Ne.symm e)]
   rcases lt_tot x y ha.1 hb.1 h with z | z
   ·exact absurd z e
   ·exact .inr z
end
mutual
theorem lt_tr : ∀ a b c : PyData, plD a = true -> plD b = true -> plD c = true -> ltP a b = some true -> ltP b c = some true -> ltP a c = some true
 | .int i, b, c, _, _, _, h, k => by
  cases b <;> simp [ltP] at h
  cases c <;> simp [ltP] at k ⊢
  omega
 | .str i, b, c, _, _, _, h, k => by
  cases b <;> simp [ltP] at h
  cases c <;> simp [ltP] at k ⊢
  exact List.lt_trans h k
 | .tuple xs, .tuple ys, .tuple zs, ha, hb, hc, h, k => by
  rw [ltP_tup] at h k ⊢
  exact lts_tr xs ys zs (by rw [← plD_tup]; exact ha) (by rw [← plD_tup]; exact hb) (by rw [← plD_tup]; exact hc) h k
 | .tuple xs, .tuple ys, .none, _, _, _, _, h => by simp [ltP] at h
 | .tuple xs, .tuple ys, .int _, _, _, _, _, h => by simp [ltP] at h
 | .tuple xs, .tuple ys, .str _, _, _, _, _, h => by simp [ltP] at h
 | .tuple xs, .tuple ys, .bool _, _, _, hb, _, _ => by simp [plD] at hb
 | .tuple xs, .tuple ys, .list _, _, _, hb, _, _ => by simp [plD] at hb
 | .tuple xs, .tuple ys, .dict _, _, _, hb, _, _ => by simp [plD] at hb
 | .tuple xs, .none, _, _, _, _, h, _ => by simp [ltP] at h
 | .tuple xs, .int _, _, _, _, _, h, _ => by simp [ltP] at h
 | .tuple xs, .str _, _, _, _, _, h, _ => by simp [ltP] at h
 | .tuple xs, .bool _, _, _, hb, _, _, _ => by simp [plD] at hb
 | .tuple xs, .list _, _, _, hb, _, _, _ => by simp [plD] at hb
 | .tuple xs, .dict _, _, _, hb, _, _, _ => by simp [plD] at hb
 | .none, _, _, _, _, _, h, _ => by simp [ltP] at h
 | .bool _, _, _, ha, _, _, _, _ => by simp [plD] at ha
 | .list _, _, _, ha, _, _, _, _ => by simp [plD] at ha
 | .dict _, _, _, ha, _, _, _, _ => by simp [plD] at ha
theorem lts_tr : ∀ xs ys zs : List PyData, plDs xs = true -> plDs ys = true -> plDs zs = true -> ltPs xs ys = some true -> ltPs ys zs = some true -> ltPs xs zs = some true
 | [], ys, [], _, _, _, h, k => by
  cases ys with
  | nil => rw [ltPs_nil_nil] at h; cases h
  | cons y ys => rw [ltPs_cons_nil] at k; cases k
 | [], _, _ :: _, _, _, _, _, _ => ltPs_nil_cons
 | _ :: _, [], _, _, _, _, h, _ => by rw [ltPs_cons_nil] at h; cases h
 | _ :: _, _ :: _, [], _, _, _, _, k => by rw [ltPs_cons_nil] at k; cases k
 | x :: xs, y :: ys, z :: zs, ha, hb, hc, h, k => by
  rw [plDs_cons, Bool.and_eq_true] at ha hb hc
  by_cases e : x = y
  ·subst e
   rw [lts_eq ha.1] at h
   by_cases e2 : x = z
   ·subst e2
    rw [lts_eq ha.1] at k ⊢
    exact lts_tr xs ys zs ha.2 hb.2 hc.2 h k
   ·rw [lts_ne ha.1 hc.1 e2] at k ⊢
    exact k
  ·rw [lts_ne ha.1 hb.1 e] at h
   by_cases e2 : y = z
   ·subst e2
    rw [lts_ne ha.1 hb.1 e]
    exact h
   ·rw [lts_ne hb.1 hc.1 e2] at k
    have t := lt_tr x y z ha.1 hb.1 hc.1 h k
    rw [lts_ne ha.1 hc.1 (lt_ne ha.1 t)]
    exact t
end
def ltb (a b : PyData) : Bool := match ltP a b with
 | some true => true
 | _ => false
theorem ltb_iff {a b : PyData} : ltb a b = true ↔ ltP a b = some true := by
 unfold ltb
 split
 ·rename_i h; simp [h]
 ·rename_i h
  constructor
  ·intro z; cases z
  ·intro z; exact absurd z h
def cmpb (ds : List PyData) : Bool := ds.all fun a => plD a && ds.all fun b => (ltP a b).isSome
theorem cmpb_pl {ds : List PyData} (h : cmpb ds = true) {a : PyData} (m : a ∈ ds) : plD a = true := by
 have := List.all_eq_true.mp h a m
 rw [Bool.and_eq_true] at this
 exact this.1
theorem cmpb_some {ds : List PyData} (h : cmpb ds = true) {a b : PyData} (m : a ∈ ds) (k : b ∈ ds) : ∃ r, ltP a b = some r := by
 have := List.all_eq_true.mp h a m
 rw [Bool.and_eq_true] at this
 have := List.all_eq_true.mp this.2 b k
 exact Option.isSome_iff_exists.mp this
theorem ltb_f {ds : List PyData} (h : cmpb ds = true) {a b : PyData} (m : a ∈ ds) (k : b ∈ ds) (e : ltb a b = false) : a = b \/ ltb b a = true := by
 obtain ⟨r, hr⟩ := cmpb_some h m k
 cases r with
 | true => rw [ltb_iff.mpr hr] at e; cases e
 | false =>
  rcases lt_tot a b (cmpb_pl h m) (cmpb_pl h k) hr with z | z
  ·exact .inl z
  ·exact .inr (ltb_iff.mpr z)
theorem ltb_as {ds : List PyData} (h : cmpb ds = true) {a b : PyData} (m : a ∈ ds) (k : b ∈ ds) (e : ltb a b = true) : ltb b a = false := by
 have := lt_as a b (cmpb_pl h m) (cmpb_pl h k) (ltb_iff.mp e)
 cases q : ltb b a with
 | false => rfl
 | true => rw [ltb_iff.mp q] at this; cases this
theorem ltb_tr {ds : List PyData} (h : cmpb ds = true) {a b c : PyData} (m : a ∈ ds) (k : b ∈ ds) (l : c ∈ ds) (e : ltb a b = true) (e2 : ltb b c = true) : ltb a c = true :=
 ltb_iff.mpr (lt_tr a b c (cmpb_pl h m) (cmpb_pl h k) (cmpb_pl h l) (ltb_iff.mp e) (ltb_iff.mp e2))
theorem ltb_ntr {ds : List PyData} (h : cmpb ds = true) {a b c : PyData} (m : a ∈ ds) (k : b ∈ ds) (l : c ∈ ds) (e : ltb a b = false) (e2 : ltb b c = false) : ltb a c = false := by
 rcases ltb_f h m k e with rfl | z
 ·exact e2
 ·rcases ltb_f h k l e2 with rfl | z2
  ·exact e
  ·exact ltb_as h l m (ltb_tr h l k m z2 z)
abbrev RiseD (ds : List PyData) : Prop := ds.Pairwise fun a b => ltb b a = false
def insD (x : PyData) : List PyData -> List PyData
 | [] => [x]
 | y :: r => if ltb y x = true then y :: insD x r else x :: y :: r
def srtD : List PyData -> List PyData
 | [] => []
 | x :: r => insD x (srtD r)
theorem ins_perm (x : PyData) : ∀ l : List PyData, (insD x l).Perm (x :: l)
 | [] => .refl _
 | y :: r => by
  unfold insD
  split
  ·exact ((ins_perm x r).cons y).trans (.swap x y r)
  ·exact .refl _
theorem srtD_perm : ∀ l : List PyData, (srtD l).Perm l
 | [] => .refl _
 | x :: r => (ins_perm x _).trans ((srtD_perm r).cons x)
theorem ins_rise {ds : List PyData} (h : cmpb ds = true) {x : PyData} (hx : x ∈ ds) : ∀ l : List PyData, (∀ y ∈ l, y ∈ ds) -> RiseD l -> RiseD (insD x l)
 | [], _, _ => List.pairwise_singleton _ _
 | y :: r, hl, hr => by
  obtain ⟨h1, h2⟩ := List.pairwise_cons.mp hr
  have hy := hl y List.mem_cons_self
  unfold insD
  split
  ·rename_i c
   refine List.pairwise_cons.mpr ⟨fun z hz => ?_, ins_rise h hx r (fun z hz => hl z (List.mem_cons_of_mem _ hz)) h2⟩
   rcases List.mem_cons.mp ((ins_perm x r).mem_iff.mp hz) with rfl | hz
   ·exact ltb_as h hy hx c
   ·exact h1 z hz
  ·rename_i c
   have c' : ltb y x = false := by simpa using c
   refine List.pairwise_cons.mpr ⟨fun z hz => ?_, hr⟩
   (rcases List.mem_cons.mp hz with rfl | hz)
   ·exact c'
   ·exact ltb_ntr h (hl z (List.mem_cons_of_mem _ hz)) hy hx (h1 z hz) c'
theorem srtD_rise0 {ds : List PyData} (h : cmpb ds = true) : ∀ l : List PyData, (∀ y ∈ l, y ∈ ds) -> RiseD (srtD l)
 | [], _ => List.Pairwise.nil
 | x :: r, hl => ins_rise h (hl x List.mem_cons_self) _ (fun y hy => hl y (List.mem_cons_of_mem _ ((srtD_perm r).mem_iff.mp hy))) (srtD_rise0 h r fun y hy => hl y (List.mem_cons_of_mem _ hy))
theorem srtD_rise {ds : List PyData} (h : cmpb ds = true) : RiseD (srtD ds) := srtD_rise0 h ds fun _ y => y
theorem rise_one {ds l m : List PyData} (h : cmpb ds = true) (pl : l.Perm ds) (pm : m.Perm ds) (hl : RiseD l) (hm : RiseD m) : l = m := by
 refine List.Perm.eq_of_pairwise (le := fun a b => ltb b a = false) ?_ hl hm (pl.trans pm.symm)
 intro a b ha hb e1 e2
 rcases ltb_f h (pm.mem_iff.mp hb) (pl.mem_iff.mp ha) e1 with z | z
 ·exact z.symm
 ·rw [e2] at z; cases z
theorem srtD_one {ds l : List PyData} (h : cmpb ds = true) (pl : l.Perm ds) (hl : RiseD l) : l = srtD ds := rise_one h pl (srtD_perm ds) hl (srtD_rise h)
end PF
namespace KS
open PySem PySem.W PyProof.Rows
def run {α : Type} (lt : Nat -> Nat -> Bool) : KasT α -> α
 | .ret a => a
 | .ask i j k => run lt (k (lt i j))
section
variable {lt : Nat -> Nat -> Bool}
theorem run_bind {α β : Type} (f : α -> KasT β) : ∀ t : KasT α, run lt (t.bind f) = run lt (f (run lt t))
 | .ret a => rfl
 | .ask i j k => run_bind f (k (lt i j))
theorem run_ret {α : Type} (a : α) : run lt (.ret a) = a := rfl
theorem run_ask {α : Type} (i j : Nat) (k : Bool -> KasT α) : run lt (.ask i j k) = run lt (k (lt i j)) := rfl
theorem run_ite {α : Type} (c : Prop) [Decidable c] (a b : KasT α) : run lt (if c then a else b) = if c then run lt a else run lt b := by split <;> rfl
structure Swo (lt : Nat -> Nat -> Bool) : Prop where
 tr : ∀ {a b c}, lt a b = false -> lt b c = false -> lt a c = false
 as : ∀ {a b}, lt a b = true -> lt b a = false
theorem Swo.irr (w : Swo lt) (a : Nat) : lt a a = false := by
 cases h : lt a a with
 | false => rfl
 | true => have := w.as h; rw [h] at this; exact this
def Up (lt : Nat -> Nat -> Bool) (p : Array Nat) (m : Nat) : Prop := ∀ k, 0 < k -> k < m -> lt (p.getD k 0) (p.getD (k - 1) 0) = false
def Down (lt : Nat -> Nat -> Bool) (p : Array Nat) (m : Nat) : Prop := ∀ k, 0 < k -> k < m -> lt (p.getD (k - 1) 0) (p.getD k 0) = false
theorem Up.all (w : Swo lt) {p : Array Nat} {m : Nat} (h : Up lt p m) : ∀ (d i : Nat), i + d < m -> lt (p.getD (i + d) 0) (p.getD i 0) = false
 | 0, i, _ => w.irr _
 | d + 1, i, hl => by
  have a := h (i + (d + 1)) (by omega) hl
  rw [show i + (d + 1) - 1 = i + d by omega] at a
  exact w.tr a (Up.all w h d i (by omega))
theorem Up.le (w : Swo lt) {p : Array Nat} {m : Nat} (h : Up lt p m) {i j : Nat} (hij : i <= j) (hj : j < m) : lt (p.getD j 0) (p.getD i 0) = false := by
 have := Up.all w h (j - i) i (by omega)
 rwa [show i + (j - i) = j by omega] at this
theorem Down.all (w : Swo lt) {p : Array Nat} {m : Nat} (h : Down lt p m) : ∀ (d i : Nat), i + d < m -> lt (p.getD i 0) (p.getD (i + d) 0) = false
 | 0, i, _ => w.irr _
 | d + 1, i, hl => by
  have a := h (i + (d + 1)) (by omega) hl
  rw [show i + (d + 1) - 1 = i + d by omega] at a
  exact w.tr (Down.all w h d i (by omega)) a
theorem Down.le (w : Swo lt) {p : Array Nat} {m : Nat} (h : Down lt p m) {i j : Nat} (hij : i <= j) (hj : j < m) : lt (p.getD i 0) (p.getD j 0) = false := by
 have := Down.all w h (j - i) i (by omega)
 rwa [show i + (j - i) = j by omega] at this
theorem asc_ok {p : Array Nat} : ∀ (f n : Nat), 0 < n -> Up lt p n -> n <= run lt (kas_asc p f n) /\ run lt (kas_asc p f n) <= n + f /\ Up lt p (run lt (kas_asc p f n)) /\ (run lt (kas_asc p f n) < n + f -> lt (p.getD (run lt (kas_asc p f n)) 0) (p.getD (run lt (kas_asc p f n) - 1) 0) = true)
 | 0, n, _, h => by
  rw [kas_asc, run_ret]
  exact ⟨Nat.le_refl _, Nat.le_refl _, h, fun z => absurd z (by omega)⟩
 | f + 1, n, h0, h => by
  rw [kas_asc, run_ask]
  cases e : lt (p.getD n 0) (p.getD (n - 1) 0) with
  | true =>
   rw [if_pos rfl, run_ret]
   exact ⟨Nat.le_refl _, by omega, h, fun _ => e⟩
  | false =>
   rw [if_neg Bool.false_ne_true]
   have up : Up lt p (n + 1) := fun k k0 k1 => by
    by_cases z : k < n
    ·exact h k k0 z
    ·have : k = n := by omega
     subst this; exact e
   obtain ⟨a, b, c, d⟩ := asc_ok f (n + 1) (by omega) up
   exact ⟨by omega, by omega, c, fun z => d (by omega)⟩
theorem place_ok (w : Swo lt) {p : Array Nat} {k : Nat} (up : Up lt p k) : ∀ (f l r : Nat), l <= r -> r <= k -> r - l <= f -> (∀ i, i < l -> lt (p.getD k 0) (p.getD i 0) = false) -> (∀ i, r <= i -> i < k -> lt (p.getD k 0) (p.getD i 0) = true) ->
  run lt (kas_place p k f l r) <= k /\ (∀ i, i < run lt (kas_place p k f l r) -> lt (p.getD k 0) (p.getD i 0) = false) /\ ∀ i, run lt (kas_place p k f l r) <= i -> i < k -> lt (p.getD k 0) (p.getD i 0) = true
 | 0, l, r, hlr, hrk, hf, h1, h2 => by
  have : l = r := by omega
  subst this
  rw [kas_place, run_ret]
  exact ⟨hrk, h1, h2⟩
 | f + 1, l, r, hlr, hrk, hf, h1, h2 => by
  rw [kas_place, run_ite]
  by_cases z : l ≥ r
  ·rw [if_pos z, run_ret]
   have : l = r := by omega
   subst this
   exact ⟨hrk, h1, h2⟩
  ·rw [if_neg z, run_ask]
   have m1 : l <= (l + r) / 2 := by omega
   have m2 : (l + r) / 2 < r := by omega
   generalize (l + r) / 2 = m at m1 m2
   cases e : lt (p.getD k 0) (p.getD m 0) with
   | true =>
    rw [if_pos rfl]
    refine place_ok w up f l m m1 (by omega) (by omega) h1 fun i i0 i1 => ?_
    by_cases q : r <= i
    ·exact h2 i q i1
    ·cases e2 : lt (p.getD k 0) (p.getD i 0) with
     | true => rfl
     | false =>
      have := w.tr e2 (up.le w (i := m) (j := i) i0 i1)
      rw [e] at this; cases this
   | false =>
    rw [if_neg Bool.false_ne_true]
    refine place_ok w up f (m + 1) r (by omega) hrk (by omega) (fun i i0 => ?_) h2
    exact w.tr e (up.le w (i := i) (j := m) (by omega) (by omega))
end
end KS
namespace KS
open PySem PySem.W PyProof.Rows
section
variable {lt : Nat -> Nat -> Bool}
theorem gd (p : Array Nat) (k : Nat) : p.getD k 0 = (p[k]?).getD 0 := Array.getD_eq_getD_getElem? ..
theorem bub_get {p : Array Nat} {k d : Nat} (hk : k < p.size) (hd : d <= k) (i : Nat) : (bubble p k d).getD i 0 = if i = k - d then p.getD k 0 else if k - d < i /\ i <= k then p.getD (i - 1) 0 else p.getD i 0 := by
 rw [gd, getElem?_bubble hk d hd]
 by_cases c1 : i = k - d
 ·rw [if_pos c1, if_pos c1]; exact (gd p k).symm
 ·rw [if_neg c1, if_neg c1]
  by_cases c2 : k - d < i /\ i <= k
  ·rw [if_pos c2, if_pos c2]; exact (gd p _).symm
  ·rw [if_neg c2, if_neg c2]; exact (gd p _).symm
theorem rev_get {p : Array Nat} {i j : Nat} (hj : j <= p.size) (k : Nat) : (kas_rev p i j).getD k 0 = if i <= k /\ k < j then p.getD (i + j - 1 - k) 0 else p.getD k 0 := by
 unfold kas_rev
 rw [gd, getElem?_mirror_all hj]
 split <;> rw [gd]
theorem rev_perm (p : Array Nat) (i j : Nat) : (kas_rev p i j).Perm p := mirror_perm _ _ _ _
theorem rev_sz (p : Array Nat) (i j : Nat) : (kas_rev p i j).size = p.size := mirror_size _ _ _ _
theorem bin_ok (w : Swo lt) : ∀ (f : Nat) (p : Array Nat) (k : Nat), k + f = p.size -> Up lt p k -> (run lt (kas_bin f p k)).Perm p /\ Up lt (run lt (kas_bin f p k)) p.size
 | 0, p, k, hs, up => by
  rw [kas_bin, run_ret]
  have : k = p.size := by omega
  subst this
  exact ⟨.refl _, up⟩
 | f + 1, p, k, hs, up => by
  rw [kas_bin, run_bind]
  obtain ⟨l1, l2, l3⟩ := place_ok w up k 0 k (Nat.zero_le _) (Nat.le_refl _) (by omega) (fun i h => absurd h (Nat.not_lt_zero _)) (fun i h1 h2 => absurd h2 (by omega))
  generalize run lt (kas_place p k k 0 k) = l at l1 l2 l3
  have hk : k < p.size := by omega
  have up1 : Up lt (bubble p k (k - l)) (k + 1) := fun i i0 i1 => by
   rw [bub_get hk (by omega), bub_get hk (by omega), show k - (k - l) = l by omega]
   by_cases c1 : i < l
   ·rw [if_neg (by omega), if_neg (by omega), if_neg (by omega), if_neg (by omega)]
    exact up i i0 (by omega)
   ·by_cases c2 : i = l
    ·subst c2
     rw [if_pos rfl, if_neg (by omega), if_neg (by omega)]
     exact l2 (i - 1) (by omega)
    ·by_cases c3 : i = l + 1
     ·subst c3
      rw [if_neg (by omega), if_pos (by omega), if_pos (by omega)]
      exact w.as (l3 _ (by omega) (by omega))
     ·rw [if_neg (by omega), if_pos (by omega), if_neg (by omega), if_pos (by omega)]
      exact up (i - 1) (by omega) (by omega)
  obtain ⟨a, b⟩ := bin_ok w f (bubble p k (k - l)) (k + 1) (by rw [bubble_size]; omega) up1
  exact ⟨a.trans (bubble_perm _ _ _), by rw [bubble_size] at b; exact b⟩
def Seg (lt : Nat -> Nat -> Bool) (p : Array Nat) (n q : Nat) : Prop := ∀ k, n - 1 - q < k -> k < n -> lt (p.getD k 0) (p.getD (k - 1) 0) = false
theorem rev_down (w : Swo lt) {p : Array Nat} {n q : Nat} (hn : n <= p.size) (hq : q < n) (d : Down lt p n) (s : Seg lt p n q) : Down lt (kas_rev p (n - (q + 1)) n) n := fun k k0 k1 => by
 rw [rev_get hn, rev_get hn]
 by_cases c1 : k < n - (q + 1)
 ·rw [if_neg (by omega), if_neg (by omega)]
  exact d k k0 k1
 ·by_cases c2 : k = n - (q + 1)
  ·rw [if_neg (by omega), if_pos (by omega)]
   exact d.le w (by omega) (by omega)
  ·rw [if_pos (by omega), if_pos (by omega)]
   have := s (n - (q + 1) + n - 1 - (k - 1)) (by omega) (by omega)
   rwa [show n - (q + 1) + n - 1 - (k - 1) - 1 = n - (q + 1) + n - 1 - k by omega] at this
theorem rev_up {p : Array Nat} {n : Nat} (hn : n <= p.size) (d : Down lt p n) : Up lt (kas_rev p 0 n) n := fun k k0 k1 => by
 rw [rev_get hn, rev_get hn, if_pos (by omega), if_pos (by omega)]
 have := d (0 + n - 1 - (k - 1)) (by omega) (by omega)
 rwa [show 0 + n - 1 - (k - 1) - 1 = 0 + n - 1 - k by omega] at this
theorem rev_dn {p : Array Nat} {n : Nat} (hn : n <= p.size) (d : Up lt p n) : Down lt (kas_rev p 0 n) n := fun k k0 k1 => by
 rw [rev_get hn, rev_get hn, if_pos (by omega), if_pos (by omega)]
 have := d (0 + n - 1 - (k - 1)) (by omega) (by omega)
 rwa [show 0 + n - 1 - (k - 1) - 1 = 0 + n - 1 - k by omega] at this
theorem down_succ {p : Array Nat} {n : Nat} (d : Down lt p n) (h : lt (p.getD (n - 1) 0) (p.getD n 0) = false) : Down lt p (n + 1) := fun k k0 k1 => by
 by_cases z : k < n
 ·exact d k k0 z
 ·have : k = n := by omega
  subst this; exact h
structure DescOk (lt : Nat -> Nat -> Bool) (p : Array Nat) (n f : Nat) (r : Array Nat × Nat × Nat) : Prop where
 pm : r.1.Perm p
 n1 : n <= r.2.1
 n2 : r.2.1 <= n + f
 q1 : r.2.2 < r.2.1
 dn : Down lt r.1 r.2.1
 sg : Seg lt r.1 r.2.1 r.2.2
theorem desc_ok (w : Swo lt) : ∀ (f : Nat) (p : Array Nat) (n q : Nat), n + f <= p.size -> q < n -> Down lt p n -> Seg lt p n q -> DescOk lt p n f (run lt (kas_desc f p n q))
 | 0, p, n, q, hs, hq, d, s => by
  rw [kas_desc, run_ret]
  exact ⟨.refl _, Nat.le_refl _, Nat.le_refl _, hq, d, s⟩
 | f + 1, p, n, q, hs, hq, d, s => by
  rw [kas_desc, run_ask]
  cases e : lt (p.getD n 0) (p.getD (n - 1) 0) with
  | true =>
   rw [if_pos rfl, run_ite]
   have sg0 : ∀ p : Array Nat, Seg lt p (n + 1) 0 := fun p k k0 k1 => absurd k1 (by omega)
   by_cases z : q > 0
   ·rw [if_pos z]
    have hn : n <= p.size := by omega
    have d1 : Down lt (kas_rev p (n - (q + 1)) n) (n + 1) := by
     refine down_succ (rev_down w hn hq d s) ?_
     rw [rev_get hn, rev_get hn, if_pos (by omega), if_neg (by omega), show n - (q + 1) + n - 1 - (n - 1) = n - (q + 1) by omega]
     exact w.tr (d.le w (i := n - (q + 1)) (j := n - 1) (by omega) (by omega)) (w.as e)
    obtain ⟨a1, a2, a3, a4, a5, a6⟩ := desc_ok w f _ (n + 1) 0 (by rw [rev_sz]; omega) (by omega) d1 (sg0 _)
    exact ⟨a1.trans (rev_perm _ _ _), by omega, by omega, a4, a5, a6⟩
   ·rw [if_neg z]
    obtain ⟨a1, a2, a3, a4, a5, a6⟩ := desc_ok w f p (n + 1) 0 (by omega) (by omega) (down_succ d (w.as e)) (sg0 _)
    exact ⟨a1, by omega, by omega, a4, a5, a6⟩
  | false =>
   rw [if_neg Bool.false_ne_true, run_ask]
   cases e2 : lt (p.getD (n - 1) 0) (p.getD n 0) with
   | true =>
    rw [if_pos rfl, run_ret]
    exact ⟨.refl _, Nat.le_refl _, by simp, hq, d, s⟩
   | false =>
    rw [if_neg Bool.false_ne_true]
    have s1 : Seg lt p (n + 1) (q + 1) := fun k k0 k1 => by
     by_cases z : k < n
     ·exact s k (by omega) z
     ·have : k = n := by omega
      subst this; exact e
    obtain ⟨a1, a2, a3, a4, a5, a6⟩ := desc_ok w f p (n + 1) (q + 1) (by omega) (by omega) (down_succ d e2) s1
    exact ⟨a1, by omega, by omega, a4, a5, a6⟩
structure CountOk (lt : Nat -> Nat -> Bool) (p : Array Nat) (nrem : Nat) (r : Nat × Array Nat) : Prop where
 pm : r.2.Perm p
 n1 : 1 <= r.1
 n2 : r.1 <= nrem
 up : Up lt r.2 r.1
theorem tail3_ok {p p0 : Array Nat} {n nrem : Nat} (h0 : 0 < n) (hn : n <= nrem) (hz : nrem <= p.size) (pm : p.Perm p0) (d : Down lt p n) : CountOk lt p0 nrem (run lt (kas_tail3 n nrem p)) := by
 unfold kas_tail3
 rw [run_bind, run_ret]
 obtain ⟨a, b, c, _⟩ := asc_ok (lt := lt) (p := kas_rev p 0 n) (nrem - n) n h0 (rev_up (by omega) d)
 exact ⟨(rev_perm _ _ _).trans pm, by show 1 <= _; omega, by show _ <= nrem; omega, c⟩
theorem descPart_ok (w : Swo lt) {p p0 : Array Nat} {n nrem : Nat} (h0 : 0 < n) (hn : n + 1 <= nrem) (hz : nrem <= p.size) (pm : p.Perm p0) (d : Down lt p (n + 1)) : CountOk lt p0 nrem (run lt (kas_descPart n nrem p)) := by
 unfold kas_descPart
 rw [run_bind]
 have D := desc_ok w (nrem - (n + 1)) p (n + 1) 0 (by omega) (by omega) d (fun k k0 k1 => absurd k1 (by omega))
 generalize run lt (kas_desc (nrem - (n + 1)) p (n + 1) 0) = r at D
 obtain ⟨a1, a2, a3, a4, a5, a6⟩ := D
 have sz : r.1.size = p.size := a1.size_eq
 rw [run_ite]
 split
 ·exact tail3_ok (by omega) (by omega) (by rw [rev_sz]; omega) ((rev_perm _ _ _).trans (a1.trans pm)) (rev_down w (by omega) a4 a5 a6)
 ·exact tail3_ok (by omega) (by omega) (by omega) (a1.trans pm) a5
theorem count_ok (w : Swo lt) {p : Array Nat} {nrem : Nat} (h1 : 1 <= nrem) (hz : nrem = p.size) : CountOk lt p nrem (run lt (kas_count nrem p)) := by
 unfold kas_count
 rw [run_bind]
 obtain ⟨a, b, c, d⟩ := asc_ok (lt := lt) (p := p) (nrem - 1) 1 (by omega) (fun k k0 k1 => absurd k1 (by omega))
 generalize run lt (kas_asc p (nrem - 1) 1) = n at a b c d
 rw [run_ite]
 split
 ·rename_i e
  exact ⟨.refl _, a, by show n <= nrem; omega, c⟩
 ·rename_i e
  have hne : n ≠ nrem := fun z => e (by subst z; exact beq_self_eq_true n)
  have d' := d (by omega)
  rw [run_ite]
  split
  ·rename_i h
   rw [run_ask]
   cases e2 : lt (p.getD 0 0) (p.getD (n - 1) 0) with
   | true =>
    rw [if_pos rfl, run_ret]
    exact ⟨.refl _, a, by show n <= nrem; omega, c⟩
   | false =>
    rw [if_neg Bool.false_ne_true]
    refine descPart_ok w (by omega) (by omega) (by rw [rev_sz]; omega) (rev_perm _ _ _) (down_succ (rev_dn (by omega) c) ?_)
    rw [rev_get (by omega), rev_get (by omega), if_pos (by omega), if_neg (by omega), show 0 + n - 1 - (n - 1) = 0 by omega]
    exact w.tr e2 (w.as d')
  ·rename_i h
   have : n = 1 := by omega
   subst this
   exact descPart_ok w (by omega) (by omega) (by omega) (.refl _) (down_succ (fun k k0 k1 => absurd k1 (by omega)) (w.as d'))
theorem sort_ok (w : Swo lt) {n : Nat} (h1 : 1 <= n) : (run lt (kas_sort n)).Perm (List.toArray (List.range n)) /\ Up lt (run lt (kas_sort n)) n := by
 unfold kas_sort
 rw [run_bind]
 have hz : n = (List.toArray (List.range n)).size := by simp
 obtain ⟨a, b, c, d⟩ := count_ok w (p := List.toArray (List.range n)) h1 hz
 generalize run lt (kas_count n (List.toArray (List.range n))) = r at a b c d
 have sz : r.2.size = n := by rw [a.size_eq]; exact hz.symm
 rw [run_ite]
 split
 ·rw [show max r.1 1 = r.1 by omega]
  obtain ⟨e, f⟩ := bin_ok w (n - r.1) r.2 r.1 (by omega) d
  exact ⟨e.trans a, by rw [sz] at f; exact f⟩
 ·rename_i h
  have : r.1 = n := by omega
  rw [this] at d
  exact ⟨a, d⟩
end
end KS
namespace KS
open PySem PySem.W PyProof.Rows
def Asks {α : Type} (n : Nat) : KasT α -> (α -> Prop) -> Prop
 | .ret a, P => P a
 | .ask i j k, P => i < n /\ j < n /\ ∀ b, Asks n (k b) P
section
variable {lt : Nat -> Nat -> Bool} {n : Nat}
theorem asks_bind {α β : Type} {f : α -> KasT β} {P : α -> Prop} {P' : β -> Prop} (h : ∀ a, P a -> Asks n (f a) P') : ∀ t : KasT α, Asks n t P -> Asks n (t.bind f) P'
 | .ret a, q => h a q
 | .ask i j k, q => ⟨q.1, q.2.1, fun b => asks_bind h (k b) (q.2.2 b)⟩
theorem wp_run {α : Type} {cmp : Nat -> Nat -> (Bool -> Shared -> Prop) -> Shared -> Prop} {s : Shared} {P : α -> Prop} {Q : α -> Shared -> Prop} (hc : ∀ i j (C : Bool -> Shared -> Prop), i < n -> j < n -> C (lt i j) s -> cmp i j C s) : ∀ t : KasT α, Asks n t P -> Q (run lt t) s -> t.kasWp cmp Q s
 | .ret a, _, q => q
 | .ask i j k, a, q => hc i j _ a.1 a.2.1 (wp_run hc (k (lt i j)) (a.2.2 _) q)
def All (n : Nat) (p : Array Nat) : Prop := ∀ x ∈ p.toList, x < n
theorem All.get {p : Array Nat} (h : All n p) (h0 : 0 < n) (k : Nat) : p.getD k 0 < n := by
 rw [gd]
 cases e : p[k]? with
 | none => exact h0
 | some x => exact h x (by rw [← Array.getElem?_toList] at e; exact List.mem_of_getElem? e)
theorem All.perm {p q : Array Nat} (h : All n p) (e : q.Perm p) : All n q := fun x hx => h x ((Array.perm_iff_toList_perm.mp e).mem_iff.mp hx)
theorem asks_asc {p : Array Nat} (h : All n p) (h0 : 0 < n) : ∀ f m : Nat, Asks n (kas_asc p f m) fun _ => True
 | 0, m => trivial
 | f + 1, m => ⟨h.get h0 _, h.get h0 _, fun b => by
  cases b with
  | true => dsimp only; rw [if_pos rfl]; trivial
  | false => dsimp only; rw [if_neg Bool.false_ne_true]; exact asks_asc h h0 f (m + 1)⟩
theorem asks_desc (h0 : 0 < n) : ∀ (f : Nat) (p : Array Nat) (m q : Nat), All n p -> Asks n (kas_desc f p m q) fun r => All n r.1
 | 0, p, m, q, h => h
 | f + 1, p, m, q, h => ⟨h.get h0 _, h.get h0 _, fun b => by
  cases b with
  | true =>
   dsimp only; rw [if_pos rfl]
   split
   ·exact asks_desc h0 f _ _ _ (h.perm (rev_perm _ _ _))
   ·exact asks_desc h0 f _ _ _ h
  | false =>
   dsimp only; rw [if_neg Bool.false_ne_true]
   exact ⟨h.get h0 _, h.get h0 _, fun b => by
    cases b with
    | true => dsimp only; rw [if_pos rfl]; exact h
    | false => dsimp only; rw [if_neg Bool.false_ne_true]; exact asks_desc h0 f _ _ _ h⟩⟩
theorem asks_tail3 (h0 : 0 < n) {p : Array Nat} (h : All n p) (m r : Nat) : Asks n (kas_tail3 m r p) fun x => All n x.2 := by
 unfold kas_tail3
 refine asks_bind (P := fun _ => True) (fun a _ => ?_) _ (asks_asc (h.perm (rev_perm _ _ _)) h0 _ _)
 exact h.perm (rev_perm _ _ _)
theorem asks_descPart (h0 : 0 < n) {p : Array Nat} (h : All n p) (m r : Nat) : Asks n (kas_descPart m r p) fun x => All n x.2 :=
 asks_bind (fun a ha => by
  split
  ·exact asks_tail3 h0 (All.perm ha (rev_perm _ _ _)) _ _
  ·exact asks_tail3 h0 ha _ _) _ (asks_desc h0 _ _ _ _ h)
theorem asks_count (h0 : 0 < n) {p : Array Nat} (h : All n p) (r : Nat) : Asks n (kas_count r p) fun x => All n x.2 :=
 asks_bind (fun a _ => by
  split
  ·exact h
  ·split
   ·exact ⟨h.get h0 _, h.get h0 _, fun b => by
     cases b with
     | true => dsimp only; rw [if_pos rfl]; exact h
     | false => dsimp only; rw [if_neg Bool.false_ne_true]; exact asks_descPart h0 (h.perm (rev_perm _ _ _)) _ _⟩
   ·exact asks_descPart h0 h _ _) _ (asks_asc h h0 _ _)
theorem asks_place (h0 : 0 < n) {p : Array Nat} (h : All n p) (k : Nat) : ∀ f l r : Nat, Asks n (kas_place p k f l r) fun _ => True
 | 0, l, r => trivial
 | f + 1, l, r => by
  rw [kas_place]
  split
  ·trivial
  ·exact ⟨h.get h0 _, h.get h0 _, fun b => by
    cases b with
    | true => dsimp only; rw [if_pos rfl]; exact asks_place h0 h k f _ _
    | false => dsimp only; rw [if_neg Bool.false_ne_true]; exact asks_place h0 h k f _ _⟩
theorem asks_bin (h0 : 0 < n) : ∀ (f : Nat) (p : Array Nat) (k : Nat), All n p -> Asks n (kas_bin f p k) fun _ => True
 | 0, p, k, h => trivial
 | f + 1, p, k, h => asks_bind (fun l _ => asks_bin h0 f _ _ (h.perm (bubble_perm _ _ _))) _ (asks_place h0 h k _ _ _)
theorem asks_sort (h0 : 0 < n) : Asks n (kas_sort n) fun _ => True :=
 asks_bind (fun r hr => by
  split
  ·exact asks_bin h0 _ _ _ hr
  ·trivial) _ (asks_count h0 (fun x hx => by simpa using hx) n)
end
end KS
namespace KS
open PySem PySem.W PyProof.Rows
section
variable {prog : Program} {w : World} {A : Around} {E : Value -> Shared -> Prop} {s : Shared}
theorem pair_snd (vs : List Value) : (vs.toArray.zip vs.toArray).map (·.2) = vs.toArray := by
 apply Array.toList_inj.mp
 rw [Array.toList_map, ksk_zip]
 show (vs.zip vs).map Prod.snd = vs
 rw [List.map_snd_zip (Nat.le_refl _)]
theorem getD_range (vs : List Value) : (List.range vs.length).map (fun i => vs.getD i Value.none) = vs := by
 apply List.ext_getElem?
 intro i
 rw [List.getElem?_map]
 by_cases h : i < vs.length
 ·rw [List.getElem?_range h, List.getElem?_eq_getElem h]
  simp [h]
 ·rw [List.getElem?_eq_none_iff.mpr (by simpa using h), List.getElem?_eq_none_iff.mpr (by simpa using h)]; rfl
theorem sort_own {a : Addr} {vs : List Value} {n : Nat} {lt : Nat -> Nat -> Bool} {P : PySem.Fin -> Shared -> Prop} (ho : s.heap.get? a = some (seqObj "list" vs.toArray n)) (h64 : vs.length < 64) (wo : Swo lt)
  (hk : 2 <= vs.length -> ∀ s' : Shared, (∀ b o, b ≠ a -> s.heap.get? b = some o -> s'.heap.get? b = some o) ->
   wpAny (model prog w) A (keyKind' vs.toArray) (fun κ s'' => s'' = s' /\ ∀ (i j : Nat) (C : Bool -> Shared -> Prop), i < vs.length -> j < vs.length -> C (lt i j) s' -> wpAny (model prog w) A (keyLt' κ (vs.getD i Value.none) (vs.getD j Value.none)) C (fun _ _ => False) s') (fun _ _ => False) s')
  (h : ∀ p : List Nat, p.Perm (List.range vs.length) -> p.Pairwise (fun i j => lt j i = false) -> P (.done (.ret .none)) { s with heap := sortedHeap s.heap a vs (p.map fun i => vs.getD i Value.none).toArray }) :
  wpAny (model prog w) A (Builtin.«list.sort» ⟨[.ref a], []⟩) P E s := by --
 rw [list_sort_plain]
 (have ha : a < s.heap.objs.size := Heap.lt_size ho)
 (refine wpAny_bind (listItems_at ho rfl ?_))
 (refine wpAny_bind (listUpdate_at ho rfl ?_ (by rw [List.size_toArray, sizeLine_eq]; omega) (Nat.zero_le _)))
 obtain ⟨e1, ho1⟩ : ∃ e1, (s.heap.update a (Obj.mapSeq fun _ => (#[] : Array Value))).get? a = some (seqObj "list" #[] e1) := ⟨_, get?_update_seq ho (fun _ => #[])⟩
 (refine wpAny_bind (seqEpoch_at ho1 rfl ?_))
 (refine wpAny_bind (wpAny_newTuple ?_ (by show vs.length <= _; rw [sizeLine_eq]; omega)))
 (refine wpAny_bind (wpAny_newList ?_ (Nat.zero_le _)))
 (refine wpAny_holding ?_)
 generalize hh : ((s.heap.update a (Obj.mapSeq fun _ => (#[] : Array Value))).push (seqObj "tuple" vs.toArray 0)).push (seqObj "list" #[] 0) = h6
 have ho6 : h6.get? a = some (seqObj "list" #[] e1) := by
  rw [← hh, Heap.get?_push_ne _ _ _ (by rw [size_push', Heap.size_update]; exact Nat.ne_of_lt (Nat.lt_succ_of_lt ha)), Heap.get?_push_ne _ _ _ (by rw [Heap.size_update]; exact Nat.ne_of_lt ha)]
  exact ho1
 have kp : ∀ b o, b ≠ a -> s.heap.get? b = some o -> h6.get? b = some o := fun b o hb e => by
  have hlt : b < s.heap.objs.size := Heap.lt_size e
  rw [← hh, Heap.get?_push_ne _ _ _ (by rw [size_push', Heap.size_update]; exact Nat.ne_of_lt (Nat.lt_succ_of_lt hlt)), Heap.get?_push_ne _ _ _ (by rw [Heap.size_update]; exact Nat.ne_of_lt hlt), Heap.get?_update_ne _ _ _ _ hb]
  exact e
 show wpAny (model prog w) A _ P E { s with heap := h6 }
 have hz : ∀ out : Array Value, sortedHeap s.heap a vs out = h6.update a (Obj.mapSeq fun _ => out) := fun out => by rw [← hh]; rfl
 dsimp only
 by_cases h2 : vs.toArray.size < 2 --
 ·rw [if_pos h2, if_pos h2]
  refine wpAny_bind (wpAny_pure ?_)
  rw [StateT.run_pure]
  refine wpAny_bind (wpAny_pure ?_)
  dsimp only
  (refine wpAny_bind (seqEpoch_at ho6 rfl ?_))
  have e0 : (arrOf (SortSt.mk' general' (vs.toArray.zip vs.toArray) #[] 7 none)).map (·.2) = vs.toArray := pair_snd vs
  rw [e0]
  refine wpAny_bind (listUpdate_at ho6 rfl ?_ (Nat.zero_le _) (by rw [List.size_toArray, sizeLine_eq]; omega))
  (simp only [bne_self_eq_false, Bool.false_eq_true, if_false])
  have t := h (List.range vs.length) (List.Perm.refl _) (by
   rw [List.size_toArray] at h2
   match hv : vs.length with
   | 0 => simp
   | 1 => simp
   | k + 2 => omega)
  rw [getD_range, hz] at t
  exact wpAny_pure t
 ·rw [if_neg h2, if_neg h2]
  have h2' : 2 <= vs.length := by rw [List.size_toArray] at h2; omega
  refine wpAny_bind (wpAny_mono (hk h2' { s with heap := h6 } kp) ?_ fun _ _ x => x.elim)
  rintro κ _ ⟨rfl, ask⟩
  have hw : (kas_sort vs.length).kasWp (kas_ask prog w A κ vs) (fun p s' => s' = { s with heap := h6 } /\ p.Perm (List.toArray (List.range vs.length)) /\ Up lt p vs.length) { s with heap := h6 } :=
   wp_run (lt := lt) (n := vs.length) (fun i j C hi hj hC => ask i j C hi hj hC) (kas_sort vs.length) (asks_sort (by omega)) ⟨rfl, sort_ok wo (by omega)⟩
  refine wpAny_bind (wpAny_mono (kat_run (Q := fun st' s' => ∃ p : Array Nat, p.size = vs.length /\ arrOf st' = p.map (kas_item (vs.toArray.zip vs.toArray)) /\ failedOf st' = none /\ s' = { s with heap := h6 } /\ p.Perm (List.toArray (List.range vs.length)) /\ Up lt p vs.length)
   rfl h2' h64 (fun p' st' s' a1 a2 a3 a4 => ⟨p', a1, a2, a3, a4⟩) hw) ?_ fun _ _ e => e)
  rintro ⟨⟨⟩, st'⟩ s' ⟨p, hp, har, hf, rfl, pm, up⟩
  dsimp only
  have hout := kat_snds rfl har
  rw [hout]
  (refine wpAny_bind (seqEpoch_at ho6 rfl ?_))
  have hsz : (List.toArray (p.toList.map fun i => vs.getD i Value.none)).size <= sizeLine := by rw [List.size_toArray, List.length_map, Array.length_toList, hp, sizeLine_eq]; omega
  refine wpAny_bind (listUpdate_at ho6 rfl ?_ (Nat.zero_le _) (Nat.le_succ_of_le hsz))
  rw [hf]
  (simp only [bne_self_eq_false, Bool.false_eq_true, if_false])
  have t := h p.toList (by have := Array.perm_iff_toList_perm.mp pm; simpa using this) (by
   (rw [List.pairwise_iff_getElem])
   intro i j hi hj hij
   rw [Array.length_toList] at hi hj
   have u := Up.le wo up (Nat.le_of_lt hij) (by omega)
   simpa [Array.getD, hi, hj] using u)
  rw [hz] at t
  exact wpAny_pure t
end
end KS
namespace PF
open PySem PySem.Spec PySem.W PyProof.Rows
open PySem.SeqAt
def tyD : PyData -> String
 | .none => "NoneType"
 | .bool _ => "bool"
 | .int _ => "int"
 | .str _ => "str"
 | .list _ => "list"
 | .tuple _ => "tuple"
 | .dict _ => "dict"
section
variable {prog : Program} {w : World} {A : Around} {E : Value -> Shared -> Prop} {s : Shared}
theorem reads_typ {v : Value} {d : PyData} {bs : List Addr} (h : Reads s.heap v d bs) : s.TypeIs v (tyD d) := by
 cases h with
 | none => exact typeIs_none s
 | bool b => exact PySem.typeIs_bool s b
 | int i t => exact typeIs_int s i t
 | str x t => exact typeIs_str s x t
 | list h1 h2 h3 h4 => exact ⟨_, h1, h2⟩
 | tuple h1 h2 h3 h4 => exact ⟨_, h1, h2⟩
 | dict h1 h2 h3 h4 h5 => exact ⟨_, h1, h2⟩
theorem one_false {x y : Value} {b : Bool} {Q : Bool -> Shared -> Prop} (h : LtAt A s x y b) (q : Q b s) : wpAny (model prog w) A (oneLt' false x y) Q E s :=
 kat_one x y (h prog w E _ (show PySem.W.BoolBack Q (.bool b) s from q))
theorem one_true {l b : Addr} {us ws : Array Value} {r : Bool} {Q : Bool -> Shared -> Prop} (hl : s.heap.IsTuple l us) (hb : s.heap.IsTuple b ws) (hu : A.units < cLine) (lx : LexAt A.in1 s (decide (us.size < ws.size)) (us.toList.zip ws.toList) r) (q : Q r s) : wpAny (model prog w) A (oneLt' true (.ref l) (.ref b)) Q E s := by
 obtain ⟨⟨c1, d1, e1, s1⟩, o1, k1, n1, q1⟩ := id hl
 obtain ⟨⟨c2, d2, e2, s2⟩, o2, k2, n2, q2⟩ := id hb
 simp only at k1 q1 k2 q2
 subst k1 q1 k2 q2
 rw [oneLt'_eq]
 simp only [if_true]
 (refine wpAny_bind (wpAny_cRoomFor hu ?_))
 refine wpAny_bind (wpAny_callSpecialIfBound?_slot (T := "tuple") (id := "tuple.__lt__") ⟨_, o1, rfl⟩ F.slot_tuple_lt ?_)
 refine call_meets F.slot_tuple_lt ⟨_, o1, rfl⟩ F.entry_tuple_lt (F.args_tuple_lt_2 _ _) (tup_lt l b us ws n1 n2 d1 d2 s1 s2 r) ⟨o1, o2, lx, ?_⟩
 show wpAny (model prog w) A (truthOfDropped (.bool r) >>= fun x => pure x) Q E s
 exact wpAny_bind (wpAny_truthy_bool (wpAny_pure q))
theorem types_ok : ∀ {vs : List Value} {ds : List PyData} {bs : List Addr} {Q : List Value -> Shared -> Prop}, ReadsAll s.heap vs ds bs -> Q (ds.map fun d => Value.type (tyD d)) s -> wpAny (model prog w) A (vs.mapM typeOf) Q E s
 | _, _, _, _, .nil, h => by rw [List.mapM_nil]; exact wpAny_pure h
 | _, _, _, _, .cons r rs, h => by
  rw [List.mapM_cons]
  exact wpAny_bind (wpAny_typeOf (reads_typ r) (wpAny_bind (types_ok rs (wpAny_pure h))))
inductive Fsts (h : Heap) : List PyData -> List (Option Value) -> Prop
 | nil : Fsts h [] []
 | no {ds : List PyData} {fs : List (Option Value)} : Fsts h ds fs -> Fsts h (.tuple [] :: ds) (none :: fs)
 | yes {ds xs : List PyData} {x : PyData} {u : Value} {bs : List Addr} {fs : List (Option Value)} : Reads h u x bs -> Fsts h ds fs -> Fsts h (.tuple (x :: xs) :: ds) (some u :: fs)
theorem firsts_ok : ∀ {vs : List Value} {ds : List PyData} {bs : List Addr}, ReadsAll s.heap vs ds bs -> (∀ d ∈ ds, ∃ xs, d = .tuple xs) -> ∃ fs, Fsts s.heap ds fs /\ ∀ {Q : List (Option Value) -> Shared -> Prop}, Q fs s -> wpAny (model prog w) A (vs.mapM firstOfTuple') Q E s
 | _, _, _, .nil, _ => ⟨[], .nil, fun h => by rw [List.mapM_nil]; exact wpAny_pure h⟩
 | _, _, _, .cons (v := v) r rs, ht => by
  obtain ⟨fs, F, k⟩ := firsts_ok rs fun d hd => ht d (List.mem_cons_of_mem _ hd)
  obtain ⟨xs, e⟩ := ht _ List.mem_cons_self
  subst e
  cases r with
  | @tuple a o us n _ _ h1 h2 h3 h4 =>
   have go : ∀ f : Option Value, us[0]? = f -> ∀ {Q : List (Option Value) -> Shared -> Prop}, Q (f :: fs) s -> wpAny (model prog w) A ((Value.ref a :: _).mapM firstOfTuple') Q E s := fun f hf Q h => by
    rw [List.mapM_cons, kas_first_eq]
    refine wpAny_bind (wpAny_bind (wpAny_typeOf (T := "tuple") ⟨_, h1, h2⟩ ?_))
    rw [if_neg (by simp)]
    refine wpAny_bind (listItems_at h1 h3 (wpAny_pure ?_))
    rw [hf]
    exact wpAny_bind (k (wpAny_pure h))
   cases xs with
   | nil =>
    have : us[0]? = none := by
     have e : us.toList = [] := by cases h5 : us.toList with
      | nil => rfl
      | cons a b => rw [h5] at h4; cases h4
     rw [← Array.getElem?_toList, e]; rfl
    exact ⟨_, .no F, go _ this⟩
   | cons x xs =>
    cases h5 : us.toList with
    | nil => rw [h5] at h4; cases h4
    | cons u t =>
     rw [h5] at h4
     cases h4 with
     | cons r1 r2 => exact ⟨_, .yes r1 F, go _ (by rw [← Array.getElem?_toList, h5]; rfl)⟩
theorem fsts_all : ∀ {ds : List PyData} {fs : List (Option Value)}, Fsts s.heap ds fs -> fs.all (·.isSome) = true -> ∃ xs us bs, fs = us.map some /\ ReadsAll s.heap us xs bs /\ xs.length = ds.length /\ ∀ (i : Nat) (d : PyData), ds[i]? = some d -> ∃ x r, xs[i]? = some x /\ d = .tuple (x :: r)
 | _, _, .nil, _ => ⟨[], [], _, rfl, .nil, rfl, fun i d e => by simp at e⟩
 | _, _, .no F, h => by simp at h
 | _, _, .yes r F, h => by
  obtain ⟨xs, us, bs, e, ra, hl, k⟩ := fsts_all F (by simpa using h)
  refine ⟨_ :: xs, _ :: us, _, by rw [e]; rfl, .cons r ra, by simp [hl], fun i d e => ?_⟩
  cases i with
  | zero => simp at e; subst e; exact ⟨_, _, rfl, rfl⟩
  | succ i => simpa using k i d (by simpa using e)
def KindT (ds : List PyData) (κ : SortKind) : Prop := κ = general' \/ κ = oneType' \/ ∃ b, κ = tuples' b /\ (b = true -> ∃ T : String, T ≠ "tuple" /\ ∀ d ∈ ds, ∃ x r, d = .tuple (x :: r) /\ tyD x = T)
theorem kind_tup {vs : List Value} {ds : List PyData} {bs : List Addr} (ra : ReadsAll s.heap vs ds bs) (ht : ∀ d ∈ ds, ∃ xs, d = .tuple xs) (hn : ds ≠ []) : ∃ κ, KindT ds κ /\ ∀ {Q : SortKind -> Shared -> Prop}, Q κ s -> wpAny (model prog w) A (keyKind' vs.toArray) Q E s := by
 obtain ⟨fs, F, k⟩ := firsts_ok (prog := prog) (w := w) (A := A) (E := E) ra ht
 have hk : ∀ {Q : SortKind -> Shared -> Prop}, wpAny (model prog w) A (do
   if fs.toArray.all (·.isSome) then
    rule "list.sort.keys-are-tuples" --
    return tuples' ((← oneTypeOnly' (fs.toArray.filterMap id)).any (· != .type "tuple"))
   if (fs.toArray[0]?.bind id).isSome then return general'
   return if (← oneTypeOnly' vs.toArray).isSome then oneType' else general') Q E s -> wpAny (model prog w) A (keyKind' vs.toArray) Q E s := fun {Q} h => by
  (rw [keyKind'_eq, List.mapM_toArray, map_eq_pure_bind])
  exact wpAny_bind (wpAny_bind (k (wpAny_pure h)))
 by_cases ha : fs.all (·.isSome) = true
 ·obtain ⟨xs, us, cs, e, ru, hl, kk⟩ := fsts_all F ha
  have e1 : fs.toArray.all (·.isSome) = true := by simpa using ha
  have e2 : fs.toArray.filterMap id = us.toArray := by rw [e]; simp
  obtain ⟨x0, xr, hx⟩ : ∃ x0 xr, xs = x0 :: xr := by
   cases xs with
   | nil => rw [List.length_nil] at hl; exact absurd (List.length_eq_zero_iff.mp hl.symm) hn
   | cons a b => exact ⟨a, b, rfl⟩
  by_cases hT : xs.all (fun x => decide (tyD x = tyD x0)) = true
  ·refine ⟨tuples' (Value.type (tyD x0) != Value.type "tuple"), .inr (.inr ⟨_, rfl, fun hb => ⟨tyD x0, fun z => ?_, fun d hd => ?_⟩⟩), fun {Q} h => hk ?_⟩
   ·rw [z] at hb; simp at hb
   ·obtain ⟨i, hi⟩ := List.mem_iff_getElem?.mp hd
    obtain ⟨x, r, h1, h2⟩ := kk i d hi
    exact ⟨x, r, h2, of_decide_eq_true (List.all_eq_true.mp hT x (List.mem_of_getElem? h1))⟩
   ·rw [if_pos e1, e2]
    refine wpAny_bind (wpAny_rule ?_)
    (rw [oneTypeOnly'_eq, List.mapM_toArray, map_eq_pure_bind])
    refine wpAny_bind (wpAny_bind (wpAny_bind (types_ok ru (wpAny_pure ?_))))
    rw [hx]
    have h0 : (List.map (fun d => Value.type (tyD d)) (x0 :: xr)).toArray[0]? = some (Value.type (tyD x0)) := by simp
    have hall : ((List.map (fun d => Value.type (tyD d)) (x0 :: xr)).toArray.all fun x => x == Value.type (tyD x0)) = true := by
     (simp only [List.all_toArray, List.all_map, List.all_eq_true])
     intro y hy
     have := of_decide_eq_true (List.all_eq_true.mp hT y (by rw [hx]; exact hy))
     simp [this]
    rw [h0]
    simp only [hall, if_true]
    (exact wpAny_pure (wpAny_pure h))
  ·refine ⟨tuples' false, .inr (.inr ⟨_, rfl, fun hb => by cases hb⟩), fun {Q} h => hk ?_⟩
   rw [if_pos e1, e2]
   refine wpAny_bind (wpAny_rule ?_)
   (rw [oneTypeOnly'_eq, List.mapM_toArray, map_eq_pure_bind])
   refine wpAny_bind (wpAny_bind (wpAny_bind (types_ok ru (wpAny_pure ?_))))
   rw [hx]
   have h0 : (List.map (fun d => Value.type (tyD d)) (x0 :: xr)).toArray[0]? = some (Value.type (tyD x0)) := by simp
   have hall : ((List.map (fun d => Value.type (tyD d)) (x0 :: xr)).toArray.all fun x => x == Value.type (tyD x0)) = false := by
    rw [← hx]
    rw [Bool.not_eq_true, List.all_eq_false] at hT
    obtain ⟨y, hy, hne⟩ := hT
    simp only [List.all_toArray, List.all_map, List.all_eq_false]
    refine ⟨y, hy, ?_⟩
    simpa using hne
   rw [h0]
   simp only [hall, Bool.false_eq_true, if_false]
   (exact wpAny_pure (wpAny_pure h))
 ·have e1 : ¬ fs.toArray.all (·.isSome) = true := by simpa using ha
  by_cases hf : (fs.toArray[0]?.bind id).isSome = true
  ·exact ⟨general', .inl rfl, fun {Q} h => hk (by rw [if_neg e1, if_pos hf]; exact wpAny_pure h)⟩
  ·refine ⟨oneType', .inr (.inl rfl), fun {Q} h => hk ?_⟩
   rw [if_neg e1, if_neg hf, oneTypeOnly'_eq, List.mapM_toArray, map_eq_pure_bind]
   refine wpAny_bind (wpAny_bind (wpAny_bind (types_ok ra (wpAny_pure ?_))))
   obtain ⟨d0, dr, rfl⟩ : ∃ d0 dr, ds = d0 :: dr := by
    cases ds with
    | nil => exact absurd rfl hn
    | cons a b => exact ⟨a, b, rfl⟩
   have h0 : (List.map (fun d => Value.type (tyD d)) (d0 :: dr)).toArray[0]? = some (Value.type (tyD d0)) := by simp
   have hall : ((List.map (fun d => Value.type (tyD d)) (d0 :: dr)).toArray.all fun x => x == Value.type (tyD d0)) = true := by
    (simp only [List.all_toArray, List.all_map, List.all_eq_true])
    intro y hy
    obtain ⟨z, rfl⟩ := ht y hy
    obtain ⟨z0, rfl⟩ := ht d0 List.mem_cons_self
    simp [tyD]
   rw [h0]
   simp only [hall, if_true]
   (exact wpAny_pure (wpAny_pure h))
def Fst2 (b : Bool) (i : Nat) (xs ys : List PyData) : Prop := b = true -> i = 0 -> ∀ x y xr yr, xs = x :: xr -> ys = y :: yr -> ltP x y ≠ none -> PyData.eqv x y = false -> (∃ i j, x = .int i /\ y = .int j) \/ ∃ i j, x = .str i /\ y = .str j
theorem kat_reads {b : Bool} : ∀ (xs ys : List PyData) (vs ws : List Value) (as bs : List Addr) (i : Nat) (r : Bool) (Q : Bool -> Shared -> Prop), ReadsAll s.heap vs xs as -> ReadsAll s.heap ws ys bs -> PyData.canLayAll0 xs = true -> PyData.canLayAll0 ys = true -> A.units + min (PyData.depthAll xs) (PyData.depthAll ys) < cLine -> ltPs xs ys = some r -> Fst2 b i xs ys -> Q r s ->
  KatLex prog w A b (decide (vs.length < ws.length)) Q (vs.zip ws) i s
 | [], [], _, _, _, _, i, r, Q, ra, rb, _, _, _, h, _, q => by
  cases ra; cases rb
  rw [ltPs_nil_nil] at h
  cases h
  exact kat_nil q
 | [], _ :: _, _, _, _, _, i, r, Q, ra, rb, _, _, _, h, _, q => by
  cases ra; cases rb
  rw [ltPs_nil_cons] at h
  cases h
  exact kat_nil (by simpa using q)
 | _ :: _, [], _, _, _, _, i, r, Q, ra, rb, _, _, _, h, _, q => by
  cases ra; cases rb
  rw [ltPs_cons_nil] at h
  cases h
  exact kat_nil (by simpa using q)
 | x :: xs, y :: ys, _, _, _, _, i, r, Q, ra, rb, ha, hb, hu, h, f2, q => by
  have ha' : x.canLay0 = true /\ PyData.canLayAll0 xs = true := by simpa [PyData.canLayAll0] using ha
  have hb' : y.canLay0 = true /\ PyData.canLayAll0 ys = true := by simpa [PyData.canLayAll0] using hb
  rw [ltPs_cons] at h
  cases ra with
  | cons r1 rs =>
   cases rb with
   | cons r2 rs2 =>
    have e := eqAt_reads x y A s _ _ _ _ r1 r2 ha'.1 hb'.1 (room_head hu)
    rw [List.zip_cons_cons, List.length_cons, List.length_cons]
    refine kat_cons (e prog w _ _ ?_)
    by_cases c : PyData.eqv x y = true
    ·rw [if_pos c] at h
     rw [c]
     have t := kat_reads (b := b) xs ys _ _ _ _ (i + 1) r Q rs rs2 ha'.2 hb'.2 (room_tail hu) h (fun _ z => by omega) q
     refine kat_yes ?_
     simpa using t
    ·rw [if_neg c] at h
     rw [Bool.not_eq_true] at c
     rw [c]
     refine kat_no ?_
     by_cases z : (b && i == 0) = true
     ·rw [z]
      rw [Bool.and_eq_true] at z
      rcases f2 z.1 (by simpa using z.2) x y xs ys rfl rfl (by rw [h]; simp) c with ⟨p, p', rfl, rfl⟩ | ⟨p, p', rfl, rfl⟩
      ·rw [ltP_int] at h
       cases h
       cases r1; cases r2
       exact oneLt_int q
      ·rw [ltP_str] at h
       cases h
       cases r1; cases r2
       exact oneLt_str q
     ·rw [Bool.not_eq_true] at z
      rw [z]
      exact one_false (ltAt_reads x y A s _ _ _ _ r r1 r2 ha'.1 hb'.1 (room_head hu) h) q
theorem lt_kind {ds : List PyData} {κ : SortKind} (hκ : KindT ds κ) {xs ys : List PyData} {v u : Value} {as bs : List Addr} {r : Bool} {Q : Bool -> Shared -> Prop} (mx : PyData.tuple xs ∈ ds) (my : PyData.tuple ys ∈ ds) (ra : Reads s.heap v (.tuple xs) as) (rb : Reads s.heap u (.tuple ys) bs) (hx : (PyData.tuple xs).canLay0 = true) (hy : (PyData.tuple ys).canLay0 = true)
  (hu : A.units + 66 < cLine) (dx : (PyData.tuple xs).depth <= 64) (h : ltP (.tuple xs) (.tuple ys) = some r) (q : Q r s) : wpAny (model prog w) A (keyLt' κ v u) Q E s := by
 have hu' : A.units + min (PyData.tuple xs).depth (PyData.tuple ys).depth < cLine := by omega
 rcases hκ with rfl | rfl | ⟨b, rfl, hb⟩
 ·exact one_false (ltAt_reads _ _ A s _ _ _ _ r ra rb hx hy hu' h) q
 ·rw [keyLt'_oneType]
  cases ra with
  | tuple h1 h2 h3 h4 =>
   cases rb with
   | tuple k1 k2 k3 k4 =>
    rw [ltP_tup] at h
    refine one_true ⟨_, h1, h2, _, h3⟩ ⟨_, k1, k2, _, k3⟩ (room_here hu') ?_ q
    have t := lexAt_reads xs ys A.in1 s _ _ _ _ r h4 k4 hx hy (room_in hu') h
    simpa using t
 ·cases ra with
  | tuple h1 h2 h3 h4 =>
   cases rb with
   | tuple k1 k2 k3 k4 =>
    rw [ltP_tup] at h
    refine kat_lt h1 h3 k1 k3 ?_
    have hd : PyData.depthAll xs < (PyData.tuple xs).depth := by simp only [PyData.depth]; omega
    have t := kat_reads (prog := prog) (w := w) (A := A) (b := b) xs ys _ _ _ _ 0 r Q h4 k4 hx hy (by omega) h (fun hb' _ x y xr yr e1 e2 hn ne => ?_) q
    ·simpa using t
    ·obtain ⟨T, hT, al⟩ := hb hb'
     obtain ⟨x', r', e3, t3⟩ := al _ mx
     obtain ⟨y', r'', e4, t4⟩ := al _ my
     rw [e1] at e3
     rw [e2] at e4
     cases e3; cases e4
     cases x <;> cases y <;> simp [ltP, tyD] at hn t3 t4 ⊢
     all_goals (subst t3; simp at hT t4)
end
end PF
namespace PF
open PySem PySem.Spec PySem.W PyProof.Rows
open PySem.SeqAt
def ltN (ds : List PyData) (i j : Nat) : Bool := match ds[i]?, ds[j]? with
 | some a, some b => ltb a b
 | some _, none => true
 | none, _ => false
theorem ltN_swo {ds : List PyData} (h : cmpb ds = true) : KS.Swo (ltN ds) where
 tr {a b c} h1 h2 := by
  unfold ltN at h1 h2 ⊢
  cases ha : ds[a]? with
  | none => rfl
  | some x =>
   rw [ha] at h1
   cases hb : ds[b]? with
   | none => rw [hb] at h1; cases h1
   | some y =>
    rw [hb] at h1 h2
    cases hc : ds[c]? with
    | none => rw [hc] at h2; cases h2
    | some z =>
     rw [hc] at h2
     exact ltb_ntr h (List.mem_of_getElem? ha) (List.mem_of_getElem? hb) (List.mem_of_getElem? hc) h1 h2
 as {a b} h1 := by
  unfold ltN at h1 ⊢
  cases ha : ds[a]? with
  | none => rw [ha] at h1; cases h1
  | some x =>
   rw [ha] at h1
   cases hb : ds[b]? with
   | none => rfl
   | some y =>
    rw [hb] at h1
    exact ltb_as h (List.mem_of_getElem? ha) (List.mem_of_getElem? hb) h1
section
variable {prog : Program} {w : World} {A : Around} {E : Value -> Shared -> Prop} {s : Shared}
theorem reads_get {h : Heap} : ∀ {vs : List Value} {ds : List PyData} {bs : List Addr} {i : Nat}, ReadsAll h vs ds bs -> i < ds.length -> ∃ d cs, ds[i]? = some d /\ Reads h (vs.getD i Value.none) d cs
 | _, _, _, _, .nil, hi => by simp at hi
 | _, _, _, 0, .cons r rs, _ => ⟨_, _, rfl, r⟩
 | _, _, _, i + 1, .cons r rs, hi => by
  obtain ⟨d, cs, e, q⟩ := reads_get (i := i) rs (by simpa using hi)
  exact ⟨d, cs, by simpa using e, by simpa using q⟩
theorem ask_ok {vs : List Value} {ds : List PyData} {bs : List Addr} (ra : ReadsAll s.heap vs ds bs) (hc : cmpb ds = true) (hok : ds.all okD = true) (h2 : 2 <= vs.length) (hu : A.units + 66 < cLine) :
  wpAny (model prog w) A (keyKind' vs.toArray) (fun κ s'' => s'' = s /\ ∀ (i j : Nat) (C : Bool -> Shared -> Prop), i < vs.length -> j < vs.length -> C (ltN ds i j) s -> wpAny (model prog w) A (keyLt' κ (vs.getD i Value.none) (vs.getD j Value.none)) C (fun _ _ => False) s) (fun _ _ => False) s := by
 have hl : vs.length = ds.length := ReadsAll.length ds vs bs ra
 have ask : ∀ (κ : SortKind), (∀ (x y : PyData) (v u : Value) (as cs : List Addr) (r : Bool) (C : Bool -> Shared -> Prop), x ∈ ds -> y ∈ ds -> Reads s.heap v x as -> Reads s.heap u y cs -> ltP x y = some r -> C r s -> wpAny (model prog w) A (keyLt' κ v u) C (fun _ _ => False) s) ->
   s = s /\ ∀ (i j : Nat) (C : Bool -> Shared -> Prop), i < vs.length -> j < vs.length -> C (ltN ds i j) s -> wpAny (model prog w) A (keyLt' κ (vs.getD i Value.none) (vs.getD j Value.none)) C (fun _ _ => False) s := fun κ k => by
  refine ⟨rfl, fun i j C hi hj hC => ?_⟩
  obtain ⟨x, as, ex, rx⟩ := reads_get (i := i) ra (by omega)
  obtain ⟨y, cs, ey, ry⟩ := reads_get (i := j) ra (by omega)
  have mx := List.mem_of_getElem? ex
  have my := List.mem_of_getElem? ey
  obtain ⟨r, hr⟩ := cmpb_some hc mx my
  refine k x y _ _ as cs r C mx my rx ry hr ?_
  have : ltN ds i j = r := by
   unfold ltN
   rw [ex, ey]
   show ltb x y = r
   unfold ltb
   rw [hr]
   cases r <;> rfl
  rw [← this]; exact hC
 obtain ⟨d0, dr, hd⟩ : ∃ d0 dr, ds = d0 :: dr := by
  cases ds with
  | nil => rw [List.length_nil] at hl; omega
  | cons a b => exact ⟨a, b, rfl⟩
 have m0 : d0 ∈ ds := by rw [hd]; exact List.mem_cons_self
 have cmp0 : ∀ d ∈ ds, ∃ r, ltP d0 d = some r := fun d hm => cmpb_some hc m0 hm
 have lay : ∀ d ∈ ds, d.canLay0 = true /\ d.depth <= 64 := fun d hm => by
  have := List.all_eq_true.mp hok d hm
  unfold okD at this
  rw [Bool.and_eq_true, decide_eq_true_eq] at this
  exact this
 have typ : ∀ v ∈ vs, ∃ d cs, d ∈ ds /\ Reads s.heap v d cs := fun v hv => by
  obtain ⟨i, hi⟩ := List.mem_iff_getElem?.mp hv
  have hil := (List.getElem?_eq_some_iff.mp hi).1
  obtain ⟨x, as, ex, rx⟩ := reads_get (i := i) ra (by omega)
  have : vs.getD i Value.none = v := by simp [hi]
  rw [this] at rx
  exact ⟨x, as, List.mem_of_getElem? ex, rx⟩
 cases d0 with
 | int i0 =>
  have ai : ∀ d ∈ ds, ∃ i, d = .int i := fun d hm => by
   obtain ⟨r, hr⟩ := cmp0 d hm
   cases d <;> simp [ltP] at hr
   exact ⟨_, rfl⟩
  refine kas_kind (T := .type "int") h2 (fun v hv => ?_) (by decide) (by decide) (ask oneType' fun x y v u as cs r C mx my rx ry hr hC => ?_)
  ·obtain ⟨d, cs, hm, rd⟩ := typ v hv
   obtain ⟨i, rfl⟩ := ai d hm
   cases rd
   exact Looks.of_pure rfl
  ·obtain ⟨i, rfl⟩ := ai x mx
   obtain ⟨j, rfl⟩ := ai y my
   rw [ltP_int] at hr
   cases hr
   cases rx; cases ry
   exact kat_lt_int hC
 | str i0 =>
  have ai : ∀ d ∈ ds, ∃ i, d = .str i := fun d hm => by
   obtain ⟨r, hr⟩ := cmp0 d hm
   cases d <;> simp [ltP] at hr
   exact ⟨_, rfl⟩
  refine kas_kind (T := .type "str") h2 (fun v hv => ?_) (by decide) (by decide) (ask oneType' fun x y v u as cs r C mx my rx ry hr hC => ?_)
  ·obtain ⟨d, cs, hm, rd⟩ := typ v hv
   obtain ⟨i, rfl⟩ := ai d hm
   cases rd
   exact Looks.of_pure rfl
  ·obtain ⟨i, rfl⟩ := ai x mx
   obtain ⟨j, rfl⟩ := ai y my
   rw [ltP_str] at hr
   cases hr
   cases rx; cases ry
   exact kas_lt_str hC
 | tuple t0 =>
  have ai : ∀ d ∈ ds, ∃ i, d = .tuple i := fun d hm => by
   obtain ⟨r, hr⟩ := cmp0 d hm
   cases d <;> simp [ltP] at hr
   exact ⟨_, rfl⟩
  obtain ⟨κ, hκ, k⟩ := kind_tup (prog := prog) (w := w) (A := A) (E := fun _ _ => False) ra ai (by rw [hd]; simp)
  refine k (ask κ fun x y v u as cs r C mx my rx ry hr hC => ?_)
  obtain ⟨i, rfl⟩ := ai x mx
  obtain ⟨j, rfl⟩ := ai y my
  exact lt_kind hκ mx my rx ry (lay _ mx).1 (lay _ my).1 hu (lay _ mx).2 hr hC
 | none => obtain ⟨r, hr⟩ := cmp0 _ m0; simp [ltP] at hr
 | bool _ => obtain ⟨r, hr⟩ := cmp0 _ m0; simp [ltP] at hr
 | list _ => obtain ⟨r, hr⟩ := cmp0 _ m0; simp [ltP] at hr
 | dict _ => obtain ⟨r, hr⟩ := cmp0 _ m0; simp [ltP] at hr
theorem sorted_own {r : Addr} {ds : List PyData} {Q : Value -> Shared -> Prop} (h64 : ds.length < 64) (hc : cmpb ds = true) (hok : ds.all okD = true) (hu : A.units + 70 < cLine)
  (coll : ∀ (R : List Value -> Shared -> Prop), (∀ h' d' tk (vs : List Value) (bs : List Addr), ReadsAll h' vs ds bs -> (∀ b u, s.heap.get? b = some u -> h'.get? b = some u) ->
    (∀ (h1 h2 : Heap) (d2 : Drawn) (tk2 e : Nat) (p : List Nat), p.Perm (List.range vs.length) -> (p.map fun i => ds.getD i .none) = srtD ds -> (∀ b u, s.heap.get? b = some u -> h1.get? b = some u) -> (∀ b u, h'.get? b = some u -> h1.get? b = some u) -> h2.get? h1.objs.size = some (seqObj "list" (p.map fun i => vs.getD i Value.none).toArray e) -> (∀ b u, h1.get? b = some u -> h2.get? b = some u) ->
     Q (.ref h1.objs.size) { s with heap := h2, drawn := d2, toks := tk2 }) -> R vs { s with heap := h', drawn := d', toks := tk }) -> wpAny (model prog w) A.in1 (collect (.ref r)) R E s) :
  wpAny (model prog w) A (call (.builtin "sorted") [.ref r]) Q E s := by --
 refine Calls.call_function_entry kind_sorted plain_sorted entry_sorted (args_sorted1 _) ?_; unfold Builtin.«sorted»
 refine wpAny_bind (m := checkCount "sorted" 1 1 _) (wpAny_pure (wpAny_bind (coll _ fun h' d' tk vs bs ra kp q => ?_)))
 have hl : vs.length = ds.length := ReadsAll.length ds vs bs ra
 refine wpAny_bind (wpAny_newList ?_ (by rw [sizeLine_eq]; omega)); have g : (h'.push { cls := .type "list", data := .seq vs.toArray }).get? h'.objs.size = some (seqObj "list" vs.toArray 0) := Heap.get?_push_size _ rfl
 have hin1 := in1_units A
 have hin2 := in1_units A.in1
 refine wpAny_bind (wpAny_holding (wpAny_call_entry slot_list_sort ⟨_, g, rfl⟩ entry_list_sort (KS.sort_own g (by omega) (ltN_swo hc) (fun h2 s' k' => ask_ok (ds := ds) (bs := bs) ?_ hc hok h2 (by omega)) fun p pm pw => ⟨_, rfl, ?_⟩) (args_list_sort _)))
 ·refine PyProof.Rows.ReadsAll.keeps (fun b o eb => k' b o (Nat.ne_of_lt (Heap.lt_size eb)) (Heap.get?_push_of_some _ eb)) ra
 ·obtain ⟨e, ge⟩ := sortedHeap_at (out := (p.map fun i => vs.getD i Value.none).toArray) g
  have es : (p.map fun i => ds.getD i .none) = srtD ds := by
   have e0 : (List.range vs.length).map (fun i => ds.getD i .none) = ds := by
    rw [hl]
    apply List.ext_getElem?
    intro i
    rw [List.getElem?_map]
    by_cases z : i < ds.length
    ·rw [List.getElem?_range z, List.getElem?_eq_getElem z]
     simp [z]
    ·rw [List.getElem?_eq_none_iff.mpr (by simpa using z), List.getElem?_eq_none_iff.mpr (by simpa using z)]; rfl
   refine srtD_one hc ?_ ?_
   ·have := pm.map fun i => ds.getD i .none
    rwa [e0] at this
   ·rw [RiseD, List.pairwise_map]
    refine List.Pairwise.imp_of_mem ?_ pw
    intro a b ma mb h
    have la : a < ds.length := by have := List.mem_range.mp (pm.mem_iff.mp ma); omega
    have lb : b < ds.length := by have := List.mem_range.mp (pm.mem_iff.mp mb); omega
    unfold ltN at h
    rw [List.getElem?_eq_getElem la, List.getElem?_eq_getElem lb] at h
    simpa [la, lb] using h
  refine wpAny_pure ⟨_, rfl, q h' _ d' tk e p pm es kp (fun b u z => z) ge fun b u eb => ?_⟩
  have lb := Heap.lt_size eb
  rw [sortedHeap_old (Nat.ne_of_lt lb) (by rw [Heap.size_push]; exact Nat.lt_succ_of_lt lb)]
  exact Heap.get?_push_of_some _ eb
end
end PF
namespace PF
open PySem PySem.Spec
open L2
theorem TDs.pick {as : As} {H : Hp} {vs : List V} {ds : List PyData} (t : TDs as H vs ds) : ∀ p : List Nat, (∀ i ∈ p, i < ds.length) -> TDs as H (p.map fun i => vs.getD i .non) (p.map fun i => ds.getD i .none)
 | [], _ => .nil
 | i :: r, h => by
  have hi := h i List.mem_cons_self
  obtain ⟨v, e, td⟩ := t.get (i := i) (d := ds[i]) (List.getElem?_eq_getElem hi)
  refine .cons ?_ (TDs.pick t r fun j hj => h j (List.mem_cons_of_mem _ hj))
  show TD as H (vs.getD i .non) (ds.getD i .none)
  rw [show vs.getD i .non = v by simp [e], show ds.getD i .none = ds[i] by simp [hi]]
  exact td
theorem vals_get {vs : List V} {us : List Value} (r : Vals vs us) {i : Nat} {v : V} (e : vs[i]? = some v) : ∃ u, us[i]? = some u /\ RelV v u := by
 induction r generalizing i with
 | nil => simp at e
 | cons a b ih =>
  cases i with
  | zero => simp at e; subst e; exact ⟨_, rfl, a⟩
  | succ i => simpa using ih (by simpa using e)
theorem vals_pick {vs : List V} {us : List Value} (r : Vals vs us) : ∀ p : List Nat, (∀ i ∈ p, i < vs.length) -> Vals (p.map fun i => vs.getD i .non) (p.map fun i => us.getD i Value.none)
 | [], _ => .nil
 | i :: q, h => by
  have hi := h i List.mem_cons_self
  obtain ⟨u, e, rv⟩ := vals_get r (i := i) (List.getElem?_eq_getElem hi)
  refine .cons ?_ (vals_pick r q fun j hj => h j (List.mem_cons_of_mem _ hj))
  show RelV (vs.getD i .non) (us.getD i Value.none)
  rw [show vs.getD i .non = vs[i] by simp [hi], show us.getD i Value.none = u by simp [e]]
  exact rv
section
variable {X : Cx}
def gSorted (m : Bool) (ds : List D) (s : S) : R D := match ds with
 | [d] => match (seqD s d).bind pures with
  | some xs => if xs.length < 64 /\ cmpb xs = true /\ xs.all okD = true then newL m ((srtD xs).map D.da) s else .bad
  | none => .bad
 | _ => .bad
theorem c_sorted (m : Bool) (hu : X.A.units + 70 < cLine) : CB X (.builtin "sorted") (gSorted m) := cb_of fun pins sh σ H as s xs ds us Q I rl rs ru h => by
 unfold gSorted at h
 split at h
 ·rename_i d
  split at h
  ·rename_i es he
   split at h
   ·rename_i hcond
    obtain ⟨h64, hc, hok⟩ := hcond
    obtain ⟨v, rfl, rv⟩ := rs.one
    cases e1 : seqD s d with
    | none => rw [e1] at he; cases he
    | some ys =>
     rw [e1] at he
     have hp : pures ys = some es := he
     have e2 := pures_eq hp
     subst e2
     obtain ⟨p, zs, rfl, sq, rz⟩ := seq_ok rl rv e1
     obtain ⟨u, rfl, ruv⟩ := vals1 ru
     cases ruv
     have td := rz.td
     have fin : ∀ (its : List Value), Vals zs its -> (∃ (T : String) (o : Obj) (n : Nat), (T = "list" \/ T = "tuple") /\ sh.heap.get? p = some o /\ o.cls = .type T /\ o.data = .seq its.toArray n) -> wpAny (model X.prog X.w) X.A (call (.builtin "sorted") [.ref p]) (EP X pins σ Q) X.xe sh := fun its rv ⟨T, o, n, hT, ho, hcl, hd⟩ => by
      obtain ⟨bs, ra⟩ := td.reads I rv
      have hl2 : its.length = es.length := PySem.SeqAt.ReadsAll.length es its bs ra
      refine sorted_own (ds := es) h64 hc hok hu fun R k => PySem.wpAny_collect_seq p hT ho hcl hd (fun h' kp => ?_) (by rw [List.size_toArray, sizeLine_eq]; omega)
      have k1 := k h' sh.drawn sh.toks its bs (PyProof.Rows.ReadsAll.keeps kp ra) kp
      refine k1 fun h1 h2 d2 tk2 e p' pm es' kp1 kp1' g kp2 => ?_
      have I1 : Inv X pins σ H { sh with heap := h1, toks := sh.toks } := I.un (Un.kept kp1) (I.hok.kept kp1)
      have hz : zs.length = es.length := td.length
      have hlt : ∀ i ∈ p', i < es.length := fun i hi => by have := List.mem_range.mp (pm.mem_iff.mp hi); omega
      have vp := vals_pick rv p' (fun i hi => by rw [hz]; exact hlt i hi)
      have hlen : p'.length = es.length := by rw [pm.length_eq, List.length_range, hl2]
      have I2 : Inv X pins σ (upd H h1.objs.size (.lst (p'.map fun i => zs.getD i .non))) { sh with heap := h2, toks := tk2 } := I1.laid (t' := tk2) kp2 (Nat.le_refl _) ⟨by rw [List.length_map, hlen, sizeLine_eq]; omega, _, e, vp, by simpa [PyProof.Rows.seqObj] using g⟩
      have nw : New H h1.objs.size (.lst (p'.map fun i => zs.getD i .non)) (upd H h1.objs.size (.lst (p'.map fun i => zs.getD i .non))) := ⟨I1.hok.fresh (Nat.le_refl _), rfl⟩
      have tp := (td.pick p' hlt).rd (K := X.K)
      rw [es'] at tp
      exact ⟨.ref h1.objs.size, _, I2.drew d2, rfl, newL_ok h rl tp nw⟩
     rcases sq with sq | sq
     ·obtain ⟨its, rv, ⟨o, k, h1, h2, h3, h4⟩, z⟩ := I.list sq
      exact fin its rv ⟨"list", o, _, .inl rfl, h1, h2, h4⟩
     ·obtain ⟨its, rv, ⟨o, h1, h2, k, h3⟩, z⟩ := I.tuple sq
      exact fin its rv ⟨"tuple", o, _, .inr rfl, h1, h2, h3⟩
   ·exact h.elim
  ·exact h.elim
 ·exact h.elim
end
end PF
namespace L2
open PySem PySem.Spec PyProof.Rows
open MeetsSeq MeetsSeq2 MeetsSeq3 SeqRoads2 --
def RawD (h : Heap) (d : Addr) (es : Array DictEntry) (ep : Nat) : Prop := ∃ o, h.get? d = some o /\ o.ExactDict /\ o.data = .dict es ep
section
variable {prog : Program} {w : World} {A : Around} {E : Value -> Shared -> Prop} {s : Shared} {it d : Addr} {es : Array DictEntry} {ep i : Nat}
theorem next_key {Q : Option Value -> Shared -> Prop} (hit : s.heap.IsKeyIter it d i es.size ep) (hm : RawD s.heap d es ep) (hi : i < es.size)
  (hQ : ∀ h', h'.IsKeyIter it d (i + 1) es.size ep -> Heap.SameBut it s.heap h' -> Q (some es[i].key) { s with heap := h' }) : wpAny (model prog w) A (pyNext (.ref it)) Q E s := by
 have hT := hit.typeIs
 obtain ⟨⟨oc, od1, odat, osl⟩, ho, hc, hd⟩ := id hit
 obtain ⟨⟨dc, dd1, ddat, dsl⟩, hod, hcd, hdd⟩ := id hm
 simp only at hc hd hdd
 subst hc hd hdd
 have hown : Builtin.Dict_items.ownsTuple ((Manifest.find? "dict_keyiterator").elim "dict_keyiterator" fun x => x.tpName) = false := by decide +kernel
 unfold pyNext
 refine wpAny_bind (wpAny_attempt (wpAny_callSpecial?_slot (name := Str.ofString "__next__") hT F.slot_dict_keyiterator_next (wpAny_call_entry F.slot_dict_keyiterator_next hT F.entry_dict_keyiterator_next ?_ (F.args_dict_keyiterator_next_1 _))))
 wp_walk
 simp only [hown, Bool.false_eq_true, if_false, List.drop_zero, List.take]
 wp_walk
 rw [if_neg (show ¬ ((i : Int) < 0) by omega), Int.toNat_natCast, Array.getElem?_eq_getElem hi]
 wp_walk
 simp only [hown, Bool.false_eq_true, if_false, Nat.zero_add]
 refine ⟨_, rfl, wpAny_pure ?_⟩
 split
 ·rename_i hb
  exact absurd hb (by decide +kernel)
 ·refine hQ _ ⟨_, Heap.get?_update_self _ ho (Obj.isFreed_of_fields (Obj.data_mapFields rfl _)), rfl, ?_⟩ (Heap.SameBut.update ..)
  rw [Obj.data_mapFields rfl]
  simp [rawInt]
end
end L2
namespace L2
open PySem PySem.Spec PyProof.Rows
open MeetsSeq MeetsSeq2 MeetsSeq3 SeqRoads2 --
section
variable {prog : Program} {w : World} {A : Around} {E : Value -> Shared -> Prop} {s : Shared} {it d : Addr} {es : Array DictEntry} {ep i : Nat}
theorem next_end {Q : Option Value -> Shared -> Prop} (hh : A.handled = none) (hit : s.heap.IsKeyIter it d i es.size ep) (hm : RawD s.heap d es ep) (hi : es.size <= i)
  (hQ : ∀ h', Heap.ExtBut it s.heap h' -> Q none { s with heap := h' }) : wpAny (model prog w) A (pyNext (.ref it)) Q E s := by
 have hT := hit.typeIs
 obtain ⟨⟨oc, od1, odat, osl⟩, ho, hc, hd⟩ := id hit
 obtain ⟨⟨dc, dd1, ddat, dsl⟩, hod, hcd, hdd⟩ := id hm
 simp only at hc hd hdd
 subst hc hd hdd
 have hown : Builtin.Dict_items.ownsTuple ((Manifest.find? "dict_keyiterator").elim "dict_keyiterator" fun x => x.tpName) = false := by decide +kernel
 unfold pyNext
 refine wpAny_bind (wpAny_attempt (wpAny_callSpecial?_slot (name := Str.ofString "__next__") hT F.slot_dict_keyiterator_next (wpAny_call_entry F.slot_dict_keyiterator_next hT F.entry_dict_keyiterator_next ?_ (F.args_dict_keyiterator_next_1 _))))
 wp_walk
 simp only [hown, Bool.false_eq_true, if_false, List.drop_zero, List.take]
 wp_walk
 rw [if_neg (show ¬ ((i : Int) < 0) by omega), Int.toNat_natCast, Array.getElem?_eq_none hi]
 wp_walk
 unfold raiseNew
 (refine wpAny_bind (wpAny_handled ?_))
 (rw [show A.in1.handled = none from hh])
 (refine wpAny_bind (wpAny_pure (wpAny_throw ?_)))
 (refine wpAny_bind (wpAny_isInstance (T := "StopIteration") (b := true) ⟨_, Heap.get?_push_size _ rfl, rfl⟩ isSubtype_stop ?_))
 (exact wpAny_pure (hQ _ (((Heap.SameBut.update ..).extBut.push _).push _)))
end
end L2
namespace L2
open PySem PySem.Spec PyProof.Rows
open MeetsSeq MeetsSeq2 MeetsSeq3 SeqRoads2 --
section
variable {prog : Program} {w : World} {A : Around} {E : Value -> Shared -> Prop} {s : Shared} {it d : Addr} {es : Array DictEntry} {ep i : Nat}
theorem iter_raw {Q : Value -> Shared -> Prop} (hd : (d == sysModules) = false) (hm : RawD s.heap d es ep)
  (h : Q (.ref s.heap.objs.size) { s with heap := s.heap.push { cls := .type "dict_keyiterator", data := .fields #[.ref d, .int (0 : Nat) 0, .int (es.size : Nat) 0, .int (ep : Nat) 0] } }) : wpAny (model prog w) A (pyIter (.ref d)) Q E s := by
 obtain ⟨⟨dc, dd1, ddat, dsl⟩, hod, ⟨hc1, hc2, hc3⟩, hdd⟩ := id hm
 simp only at hdd hc1 hc2 hc3
 subst hdd hc1 hc2 hc3
 have hT : s.TypeIs (.ref d) "dict" := ⟨_, hod, rfl⟩
 (refine wpAny_pyIter_slot hT F.slot_dict_iter (wpAny_call_entry F.slot_dict_iter hT F.entry_dict_iter ?_ (F.args_dict_iter_1 _)))
 wp_walk
 refine ⟨_, rfl, "dict_keyiterator", _, ⟨_, Heap.get?_push_size _ rfl, rfl⟩, F.slot_dict_keyiterator_next.lookup, ?_⟩
 simpa [rawInt] using h
theorem RawD.at {h h' : Heap} (x : RawD h d es ep) (e : ∀ o, h.get? d = some o -> h'.get? d = some o) : RawD h' d es ep := let ⟨o, ho, r⟩ := x; ⟨o, e _ ho, r⟩
theorem RawD.lt {h : Heap} (x : RawD h d es ep) : d < h.objs.size := let ⟨_, ho, _⟩ := x; Heap.lt_size ho
theorem RawD.typeIs (x : RawD s.heap d es ep) : s.TypeIs (.ref d) "dict" := let ⟨_, ho, hc, _⟩ := x; ⟨_, ho, hc.1⟩
theorem walks_keys (hh : A.handled = none) (I : Addr) (hne : d ≠ I) : Walks prog w A I [I, d] [I] es.size (fun i v => es[i]?.map (·.key) = some v) (fun i h => h.IsKeyIter I d i es.size ep /\ RawD h d es ep) where
 sub b hb := by simp at hb; simp [hb]
 frame _ _ _ st hk := ⟨st.1.at fun o e => hk I (by simp) o e, st.2.at fun o e => hk d (by simp) o e⟩
 item i s Q E hi st hQ := next_key st.1 st.2 hi fun h' hit' hs' => hQ _ h' s.toks (by rw [Array.getElem?_eq_getElem hi]; rfl) ⟨hit', st.2.at fun o e => (hs'.2 d hne).trans e⟩ fun b o hb e => hs'.extBut b o (fun z => hb (by simp [z])) e
 done s Q E st hQ := next_end hh st.1 st.2 (Nat.le_refl _) fun h' he' => hQ h' s.toks fun b o hb e => he' b o (fun z => hb (by simp [z])) e
 self _ _ _ _ st hQ := wpAny_pyIter_keyiter st.1 hQ
theorem src_keys (lo : (d == sysModules) = false) : PySem.W.KdlSrc prog w "dict" d d es.size (fun i v => es[i]?.map (·.key) = some v) (fun h => RawD h d es ep) where
 type _ hm := hm.typeIs
 there _ hm := ⟨hm.lt, hm.lt⟩
 keep _ _ hm hk := hm.at fun o e => hk d (.inl rfl) o e
 notList := by decide
 notTuple := by decide
 hint _ _ _ _ hm hq := PySem.W.kdl_hint_dict hm.typeIs hq
 iter _ _ hh hm := ⟨_, _, fun _ _ hq => iter_raw lo hm hq, walks_keys hh _ (Nat.ne_of_lt hm.lt), ⟨⟨_, Heap.get?_push_size _ rfl, rfl, rfl⟩, hm.at fun o e => Heap.get?_push_of_some _ e⟩⟩
end
end L2
namespace L2
open PySem PySem.Spec PyProof.Rows
section
variable {P : Program} {w : World} {H : Hp} {h : Heap} {a : Addr}
mutual
theorem KD.reads (ok : HOk P w H h) : ∀ {v : V} {d : PyData} {u : Value}, KD H v d -> RelV v u -> ∃ bs, Reads h u d bs
 | _, _, u, .non, r => by cases (show u = Value.none from r); exact ⟨_, .none⟩
 | _, _, u, .int i, r => by obtain ⟨t, e⟩ := (show ∃ t, u = Value.int i t from r); subst e; exact ⟨_, .int i t⟩
 | _, _, u, .str x, r => by obtain ⟨t, e⟩ := (show ∃ t, u = Value.str x t from r); subst e; exact ⟨_, .str x t⟩
 | _, _, u, .tup (p := b) (xs := xs) e q, r => by
  cases (show u = Value.ref b from r)
  obtain ⟨z, its, rv, o, h1, h2, k, h3⟩ := (show ObjOk P w H h b (.tup xs) from ok b _ e)
  obtain ⟨bs, ra⟩ := KDs.reads ok q rv
  exact ⟨_, .tuple h1 h2 h3 ra⟩
theorem KDs.reads (ok : HOk P w H h) : ∀ {vs : List V} {ds : List PyData} {us : List Value}, KDs H vs ds -> Vals vs us -> ∃ bs, ReadsAll h us ds bs
 | _, _, _, .nil, r => by cases r; exact ⟨_, .nil⟩
 | _, _, _, .cons a b, r => by
  cases r with
  | cons r1 r2 =>
   obtain ⟨as, h1⟩ := KD.reads ok a r1
   obtain ⟨bs, h2⟩ := KDs.reads ok b r2
   exact ⟨_, .cons h1 h2⟩
end
theorem kd_is (ok : HOk P w H h) {b : Addr} {k : PyData} (hk : PF.keyOk k = true) (e : KD H (.ref b) k) : (PF.dataKind P w).is h k b := ⟨hk, e.reads ok rfl⟩
abbrev KE (H : Hp) : List (PyData × V) -> List (PyData × Addr × Value) -> Prop := Paired fun p q => p.1 = q.1 /\ (PF.keyOk p.1 = true /\ KD H (.ref q.2.1) p.1) /\ RelV p.2 q.2.2
theorem KE.val {kvs : List (PyData × V)} {xs : List (PyData × Addr × Value)} (r : KE H kvs xs) (k : PyData) : RelO (valV kvs k) ((atKey xs k).map (·.2)) := by
 induction r with
 | nil => exact True.intro
 | @cons p q ps qs hh t ih =>
  by_cases e : p.1 = k
  ·rw [valV_pos e, show atKey (q :: qs) k = some q.2 by simp [atKey, List.find?_cons, hh.1.symm.trans e]]
   exact hh.2.2
  ·have e' : ¬ q.1 = k := fun z => e (hh.1.trans z)
   rw [valV_neg e, show atKey (q :: qs) k = atKey qs k by simp [atKey, List.find?_cons, e']]
   exact ih
theorem KE.put {kvs : List (PyData × V)} {xs : List (PyData × Addr × Value)} (r : KE H kvs xs) {k : PyData} {b : Addr} {y : V} {u : Value} (hk : PF.keyOk k = true) (hb : KD H (.ref b) k) (ry : RelV y u) : KE H (putK kvs k y) (storedH xs k b u) := by
 have e : (kvs.any fun kv => decide (kv.1 = k)) = (atKey xs k).isSome := by rw [valV_any, (r.val k).isSome_eq, Option.isSome_map]
 unfold putK storedH
 rw [e]
 by_cases q : (atKey xs k).isSome = true
 ·rw [if_pos q, if_pos q]
  clear e q
  induction r with
  | nil => exact .nil
  | @cons p q ps qs hh t ih =>
   rw [List.map_cons, List.map_cons]
   refine .cons ?_ ih
   unfold putAt
   by_cases e : p.1 = k
   ·rw [if_pos e, if_pos (hh.1.symm.trans e)]; exact ⟨hh.1, hh.2.1, ry⟩
   ·rw [if_neg e, if_neg fun z => e (hh.1.trans z)]; exact hh
 ·rw [if_neg q, if_neg q]; exact Paired.snoc r ⟨rfl, ⟨hk, hb⟩, ry⟩
theorem dd_of {kvs : List (PyData × V)} (ok : HOk P w H h) (e : H a = some (.dD kvs)) : kvs.length <= sizeLine /\ (a == sysModules) = false /\ ∃ xs, KE H kvs xs /\ h.DictOfH (PF.dataKind P w) a xs := by
 obtain ⟨z, y, xs, r, o, es, ep, h1, h2, h3, h4, h5⟩ := (show ObjOk P w H h a (.dD kvs) from ok a _ e)
 refine ⟨z, y, xs, r, o, es, ep, h1, h2, h3, h4, ?_, h5⟩
 clear h3 h4 h5 z e
 induction r with
 | nil => intro x hx; exact nomatch hx
 | @cons p q ps qs hq t ih =>
  intro x hx
  rcases List.mem_cons.mp hx with e | hx
  ·subst e
   exact kd_is ok (hq.1 ▸ hq.2.1.1) (hq.1 ▸ hq.2.1.2)
  ·exact ih x hx
theorem dk_nil (ok : HOk P w H h) (e : H a = some (.dK [])) : (a == sysModules) = false /\ h.DictOfH (PF.dataKind P w) a [] := by
 obtain ⟨z, y, vs, r, o, es, ep, h1, h2, h3, h4, h5, h6⟩ := (show ObjOk P w H h a (.dK []) from ok a _ e)
 cases r
 have : es.toList = [] := by
  cases q : es.toList with
  | nil => rfl
  | cons x y => rw [q] at h5; cases h5
 exact ⟨y, o, es, ep, h1, h2, h3, by rw [this]; rfl, (fun x hx => by cases hx), List.nodup_nil⟩
end
section
variable {X : Cx} {pins : List (Addr × Obj)} {σ : St} {H : Hp} {s : Shared} {a b : Addr} {v : V} {r : Value} {k : PyData} {kvs : List (PyData × V)} {A : Around} {E : Value -> Shared -> Prop}
def DD (H : Hp) (a : Addr) (kvs : List (PyData × V)) : Prop := H a = some (.dD kvs) \/ (H a = some (.dK []) /\ kvs = [])
theorem DD.rd {P : Program} {w : World} {h : Heap} (ok : HOk P w H h) (e : DD H a kvs) : kvs.length <= sizeLine /\ (a == sysModules) = false /\ ∃ xs, KE H kvs xs /\ h.DictOfH (PF.dataKind P w) a xs := by
 rcases e with e | ⟨e, rfl⟩
 ·exact dd_of ok e
 ·exact ⟨Nat.zero_le _, (dk_nil ok e).1, [], .nil, (dk_nil ok e).2⟩
theorem DD.mut (e : DD H a kvs) : Mut (H a) := by
 rcases e with e | ⟨e, rfl⟩ <;> (rw [e]; exact True.intro)
theorem dk_room (hu : A.units + 11 < cLine) {P : Program} {w : World} : (PF.dataKind P w).room A.in1 := by
 show A.in1.units + 10 < cLine
 have : A.in1.units <= A.units + 1 := by first | exact Nat.le_refl _ | (unfold Around.in1; simp)
 omega
theorem dd_in {Q : Value -> Shared -> Prop} (hu : A.units + 11 < cLine) (I : Inv X pins σ H s) (e : DD H a kvs) (hk : PF.keyOk k = true) (eb : KD H (.ref b) k) (h : ∀ s', Inv X pins σ H s' -> Q (.bool (valV kvs k).isSome) s') : wpAny (model X.prog X.w) A (compareOp .In (.ref b) (.ref a)) Q E s := by
 obtain ⟨z, hd, xs, rel, dd⟩ := e.rd I.hok
 have q := (rel.val k).isSome_eq
 rw [Option.isSome_map] at q
 exact wpAny_in_heap (dk_room hu) (kd_is I.hok hk eb) hd dd (q ▸ h _ (I.tok _))
theorem dd_notIn {Q : Value -> Shared -> Prop} (hu : A.units + 11 < cLine) (I : Inv X pins σ H s) (e : DD H a kvs) (hk : PF.keyOk k = true) (eb : KD H (.ref b) k) (h : ∀ s', Inv X pins σ H s' -> Q (.bool (!(valV kvs k).isSome)) s') : wpAny (model X.prog X.w) A (compareOp .NotIn (.ref b) (.ref a)) Q E s := by
 obtain ⟨z, hd, xs, rel, dd⟩ := e.rd I.hok
 have q := (rel.val k).isSome_eq
 rw [Option.isSome_map] at q
 exact wpAny_notIn_heap (dk_room hu) (kd_is I.hok hk eb) hd dd (q ▸ h _ (I.tok _))
theorem dd_put {P : Program} {w : World} {h' : Heap} {xs : List (PyData × Addr × Value)} {H' : Hp} (z : kvs.length <= sizeLine) (hd : (a == sysModules) = false) (rel : KE H kvs xs) (ht : ∀ b ys, H b = some (.tup ys) -> H' b = some (.tup ys)) (dd : h'.DictOfH (PF.dataKind P w) a xs) : ObjOk P w H' h' a (.dD kvs) := by
 obtain ⟨o, es, ep, h1, h2, h3, h4, h5, h6⟩ := dd
 exact ⟨z, hd, xs, Paired.mapP rel fun p q y => ⟨y.1, ⟨y.2.1.1, y.2.1.2.mono ht⟩, y.2.2⟩, o, es, ep, h1, h2, h3, h4, h6⟩
theorem dd_setItem {Q : Unit -> Shared -> Prop} (hu : A.units + 11 < cLine) (I : Inv X pins σ H s) (e : DD H a kvs) (hl : kvs.length < sizeLine) (hk : PF.keyOk k = true) (eb : KD H (.ref b) k) (rv : RelV v r) (h : ∀ s', Inv X pins σ (upd H a (.dD (putK kvs k v))) s' -> Q () s') : wpAny (model X.prog X.w) A (setItem (.ref a) (.ref b) r) Q E s := by
 obtain ⟨z, hd, xs, rel, dd⟩ := e.rd I.hok
 have hz : xs.length <= sizeLine := by rw [← Paired.length rel]; exact z
 have hl' : (putK kvs k v).length <= sizeLine := by have := length_putK kvs k v; omega
 refine wpAny_setItem_heap (hsz := hz) (dk_room hu) (kd_is I.hok hk eb) dd fun h' dd' hs => h _ ?_
 have he : ∃ q, h'.get? a = some q := let ⟨q, _, _, hq, _⟩ := dd'; ⟨q, hq⟩
 have ht : ∀ c ys, H c = some (.tup ys) -> upd H a (.dD (putK kvs k v)) c = some (.tup ys) := fun c ys q => by
  rw [upd_ne (fun y => by subst y; rcases e with e | ⟨e, _⟩ <;> (rw [e] at q; cases q))]; exact q
 exact d_write I e.mut hs he (dd_put hl' hd (rel.put hk eb rv) ht dd')
theorem dd_get1 {Q : Value -> Shared -> Prop} (hu : A.units + 11 < cLine) (I : Inv X pins σ H s) (e : DD H a kvs) (hk : PF.keyOk k = true) (eb : KD H (.ref b) k) (h : ∀ w' s', Inv X pins σ H s' -> RelV ((valV kvs k).getD .non) w' -> Q w' s') : wpAny (model X.prog X.w) A (call (.builtin "dict.get") [.ref a, .ref b]) Q E s := by
 obtain ⟨z, hd, xs, rel, dd⟩ := e.rd I.hok
 exact call_meetsIn PySem.F.slot_dict_get dd.typeIs PySem.F.entry_dict_get (PySem.F.args_dict_get_2 _ _) (meetsH_dict_get (PF.dataKind X.prog X.w) a b hd) ⟨dk_room hu, k, xs, kd_is I.hok hk eb, dd, h _ _ (I.tok _) ((rel.val k).getD rfl)⟩
theorem dd_get2 {d : V} {rd : Value} {Q : Value -> Shared -> Prop} (hu : A.units + 11 < cLine) (I : Inv X pins σ H s) (e : DD H a kvs) (hk : PF.keyOk k = true) (eb : KD H (.ref b) k) (rr : RelV d rd) (h : ∀ w' s', Inv X pins σ H s' -> RelV ((valV kvs k).getD d) w' -> Q w' s') : wpAny (model X.prog X.w) A (call (.builtin "dict.get") [.ref a, .ref b, rd]) Q E s := by
 obtain ⟨z, hd, xs, rel, dd⟩ := e.rd I.hok
 exact call_meetsIn PySem.F.slot_dict_get dd.typeIs PySem.F.entry_dict_get (PySem.F.args_dict_get_3 _ _ _) (meetsH_dict_get_default (PF.dataKind X.prog X.w) a b hd rd) ⟨dk_room hu, k, xs, kd_is I.hok hk eb, dd, h _ _ (I.tok _) ((rel.val k).getD rr)⟩
end
end L2
namespace PF
open PySem PySem.Spec
open L2
section
variable {K : PySem.W.Frag} {as : As} {H : Hp}
mutual
theorem TD.kd : ∀ {v : V} {d : PyData}, TD as H v d -> plD d = true -> KD H v d
 | _, _, .non, _ => .non
 | _, _, .int i, _ => .int i
 | _, _, .str x, _ => .str x
 | _, _, .tup n e r, h => .tup e (TDs.kd r (by rw [← plD_tup]; exact h))
 | _, _, .bl b, h => by simp [plD] at h
 | _, _, .lst _ _ _, h => by simp [plD] at h
theorem TDs.kd : ∀ {v : List V} {d : List PyData}, TDs as H v d -> plDs d = true -> KDs H v d
 | _, _, .nil, _ => .nil
 | _, _, .cons a r, h => by
  rw [plDs_cons, Bool.and_eq_true] at h
  exact .cons (TD.kd a h.1) (TDs.kd r h.2)
end
theorem tup_out {s : S} (rl : Rel K as H s) {q : Addr} {xs : List V} (e : H q = some (.tup xs)) : ¬ as.has q := by
 rintro (h | h)
 ·obtain ⟨n, hn⟩ := mem_as.mp h
  have hl : n < s.length := by rw [← rl.len]; exact (List.getElem?_eq_some_iff.mp hn).1
  have ro := rl.ob n q _ hn (List.getElem?_eq_getElem hl)
  cases ho : s[n] with
  | lst ds => rw [ho] at ro; obtain ⟨ys, e2, _⟩ := ro; rw [e] at e2; cases e2
  | dct kvs =>
   rw [ho] at ro
   rcases ro with ⟨l, e2, _⟩ | ⟨l, _, e2, _⟩ <;> (rw [e] at e2; cases e2)
  | set _ => rw [ho] at ro; exact ro.elim
  | ins _ _ => rw [ho] at ro; exact ro.elim
  | gone => rw [ho] at ro; exact ro.elim
 ·obtain ⟨ys, e2⟩ := rl.hs q h
  rw [e] at e2; cases e2
mutual
theorem KD.td {s : S} (rl : Rel K as H s) : ∀ {v : V} {d : PyData}, KD H v d -> TD as H v d
 | _, _, .non => .non
 | _, _, .int i => .int i
 | _, _, .str x => .str x
 | _, _, .tup e r => .tup (tup_out rl e) e (KDs.td rl r)
theorem KDs.td {s : S} (rl : Rel K as H s) : ∀ {v : List V} {d : List PyData}, KDs H v d -> TDs as H v d
 | _, _, .nil => .nil
 | _, _, .cons a r => .cons (KD.td rl a) (KDs.td rl r)
end
noncomputable def dGet {α : Type} (kvs : List (PyData × α)) (k : PyData) : Option α := (kvs.find? fun e => decide (e.1 = k)).map (·.2)
noncomputable def dPut {α : Type} (kvs : List (PyData × α)) (k : PyData) (v : α) : List (PyData × α) :=
 if (kvs.any fun e => decide (e.1 = k)) = true then kvs.map (fun e => if e.1 = k then (e.1, v) else e) else kvs ++ [(k, v)]
def isK : PyData -> Bool
 | .int _ => true
 | .str _ => true
 | _ => false
def kSame {α : Type} (kvs : List (PyData × α)) (k : PyData) : Bool := (isK k && kvs.all fun e => isK e.1) || (isT k && kvs.all fun e => isT e.1)
def keyD : D -> Option PyData
 | .da d => some d
 | _ => none
theorem kP_inj {a b : Key} (h : kP a = kP b) : a = b := by
 cases a <;> cases b <;> simp [kP] at h <;> rw [h]
theorem isK_kP {k : PyData} (h : isK k = true) : ∃ a, k = kP a := by
 cases k <;> simp [isK] at h
 ·exact ⟨.inl _, rfl⟩
 ·exact ⟨.inr _, rfl⟩
theorem val_pv (l : List (Key × V)) (k : Key) : valV (pvK l) (kP k) = valV l k := by
 induction l with
 | nil => rfl
 | cons p r ih =>
  by_cases e : p.1 = k
  ·rw [valV_pos e, show pvK (p :: r) = (kP p.1, p.2) :: pvK r from rfl, valV_pos (by rw [e])]
  ·rw [valV_neg e, show pvK (p :: r) = (kP p.1, p.2) :: pvK r from rfl, valV_neg (fun z => e (kP_inj z)), ih]
theorem put_pv (l : List (Key × V)) (k : Key) (v : V) : pvK (putK l k v) = putK (pvK l) (kP k) v := by
 unfold putK
 rw [valV_any, valV_any, val_pv]
 split
 ·unfold pvK
  (rw [List.map_map, List.map_map])
  refine List.map_congr_left fun e _ => ?_
  show (kP (if e.1 = k then (e.1, v) else e).1, (if e.1 = k then (e.1, v) else e).2) = if kP e.1 = kP k then (kP e.1, v) else (kP e.1, e.2)
  by_cases z : e.1 = k
  ·rw [if_pos z, if_pos (by rw [z])]
  ·rw [if_neg z, if_neg (fun y => z (kP_inj y))]
 ·unfold pvK
  rw [List.map_append]; rfl
theorem DRs.get {l : List (PyData × V)} {kvs : List (PyData × D)} (h : DRs K as H l kvs) (k : PyData) : (∀ d, dGet kvs k = some d -> ∃ v, valV l k = some v /\ RD K as H v d) /\ (dGet kvs k = none -> valV l k = none) := by
 induction h with
 | nil => exact ⟨fun d e => by simp [dGet] at e, fun _ => rfl⟩
 | @cons k' v d l kvs r t ih =>
  by_cases e : k' = k
  ·subst e
   refine ⟨fun d' e' => ?_, fun e' => ?_⟩
   ·simp [dGet, List.find?_cons] at e'
    subst e'
    exact ⟨v, valV_pos rfl, r⟩
   ·simp [dGet, List.find?_cons] at e'
  ·have e1 : dGet ((k', d) :: kvs) k = dGet kvs k := by simp [dGet, List.find?_cons, e]
   rw [e1, valV_neg e]
   exact ih
theorem DRs.any {l : List (PyData × V)} {kvs : List (PyData × D)} (h : DRs K as H l kvs) (k : PyData) : (l.any fun e => decide (e.1 = k)) = kvs.any fun e => decide (e.1 = k) := by
 induction h with
 | nil => rfl
 | cons r t ih => rw [List.any_cons, List.any_cons, ih]
theorem DRs.put {l : List (PyData × V)} {kvs : List (PyData × D)} (h : DRs K as H l kvs) {v : V} {d : D} (r : RD K as H v d) (k : PyData) : DRs K as H (putK l k v) (dPut kvs k d) := by
 unfold putK dPut
 rw [h.any k]
 split
 ·rename_i c
  clear c
  induction h with
  | nil => exact .nil
  | @cons k' v' d' l kvs r' t ih =>
   rw [List.map_cons, List.map_cons]
   by_cases e : k' = k
   ·rw [if_pos e, if_pos e]; exact .cons r ih
   ·rw [if_neg e, if_neg e]; exact .cons r' ih
 ·rename_i c
  clear c
  induction h with
  | nil => exact .cons r .nil
  | cons r' t ih => exact .cons r' ih
theorem DRs.len {l : List (PyData × V)} {kvs : List (PyData × D)} (h : DRs K as H l kvs) : l.length = kvs.length := by
 induction h with
 | nil => rfl
 | cons r t ih => simp [ih]
theorem pvK_len (l : List (Key × V)) : (pvK l).length = l.length := by simp [pvK]
def onD {α : Type} (d : D) (s : S) (k : Nat -> List (PyData × D) -> R α) : R α := match d with
 | .ref n => match s[n]? with
  | some (.dct kvs) => k n kvs
  | _ => .bad
 | _ => .bad
theorem ref_dct {s : S} {p : Addr} {n : Nat} {kvs : List (PyData × D)} (rl : Rel K as H s) (hr : ∀ q, as.ix[n]? = some (some q) -> q = p) (e : s[n]? = some (.dct kvs)) : as.ix[n]? = some (some p) /\ RO K as H p (.dct kvs) := by
 obtain ⟨q, hq⟩ := rl.li n _ e (by intro z; cases z)
 cases hr q hq
 exact ⟨hq, rl.ob n p _ hq e⟩
theorem onD_ok {α β : Type} {rel : As -> Hp -> β -> α -> Prop} {s : S} {d : D} {v : V} {k : Nat -> List (PyData × D) -> R α} {Q : β -> Hp -> Prop} (rl : Rel K as H s) (r : RD K as H v d) (h : Dn K rel as H (onD d s k) Q) : ∃ p n kvs, v = .ref p /\ d = .ref n /\ as.ix[n]? = some (some p) /\ s[n]? = some (.dct kvs) /\ RO K as H p (.dct kvs) /\ Dn K rel as H (k n kvs) Q := by
 cases r with
 | @ref p n l hr =>
  have h : Dn K rel as H (match s[n]? with | some (O.dct kvs) => k n kvs | _ => .bad) Q := h
  split at h
  ·rename_i kvs e
   obtain ⟨h1, h2⟩ := ref_dct rl hr e
   exact ⟨p, n, kvs, rfl, rfl, h1, e, h2, h⟩
  ·exact h.elim
 | _ => exact h.elim
theorem ro_kind {p : Addr} {kvs : List (PyData × D)} {k : PyData} (h : RO K as H p (.dct kvs)) (hs : kSame kvs k = true) : (∃ (l : List (Key × V)) (a : Key), k = kP a /\ H p = some (.dK l) /\ DRs K as H (pvK l) kvs) \/ ∃ l : List (PyData × V), isT k = true /\ DD H p l /\ DRs K as H l kvs := by
 unfold kSame at hs
 rw [Bool.or_eq_true, Bool.and_eq_true, Bool.and_eq_true] at hs
 rcases h with ⟨l, e, r⟩ | ⟨l, e0, e, r⟩
 ·rcases hs with ⟨h1, h2⟩ | ⟨h1, h2⟩
  ·obtain ⟨a, rfl⟩ := isK_kP h1
   exact .inl ⟨l, a, rfl, e, r⟩
  ·cases l with
   | nil => cases r; exact .inr ⟨[], h1, .inr ⟨e, rfl⟩, .nil⟩
   | cons q l =>
    obtain ⟨q1, q2⟩ := q
    exfalso
    have r' : DRs K as H ((kP q1, q2) :: pvK l) kvs := r
    cases r' with
    | cons r1 r2 =>
     rw [List.all_cons, Bool.and_eq_true] at h2
     have := h2.1
     cases q1 <;> simp [kP, isT] at this
 ·rcases hs with ⟨h1, h2⟩ | ⟨h1, h2⟩
  ·exfalso
   cases l with
   | nil => exact e0.1 rfl
   | cons q l =>
    obtain ⟨q1, q2⟩ := q
    cases r with
    | cons r1 r2 =>
     have a1 := e0.2
     rw [List.all_cons, Bool.and_eq_true] at h2 a1
     have h2 := h2.1
     have a1 := a1.1
     cases q1 <;> simp [isK, isT] at h2 a1
  ·exact .inr ⟨l, h1, .inl e, r⟩
end
end PF
namespace PF
open PySem PySem.Spec
open L2
open PyProof.Rows (subscriptTail subscriptTail_builtinR)
section
variable {X : Cx} {K : PySem.W.Frag} {as : As} {H : Hp}
theorem td_vals {pins : List (Addr × Obj)} {σ : St} {sh : Shared} {s : S} {p : Addr} {kvs : List (PyData × D)} (I : Inv X pins σ H sh) (rl : Rel X.K as H s) (h : RO X.K as H p (.dct kvs)) :
  ∃ (es : Array DictEntry) (ep : Nat) (xs ys : List V), RawD sh.heap p es ep /\ (p == sysModules) = false /\ es.size = kvs.length /\ kvs.length <= sizeLine /\ Vals xs (es.toList.map (·.key)) /\ TDs as H xs (kvs.map (·.1)) /\ Vals ys (es.toList.map (·.val)) /\ RDs X.K as H ys (kvs.map (·.2)) := by
 rcases h with ⟨l, e, r⟩ | ⟨l, e0, e, r⟩
 ·obtain ⟨z, hd, vs, rel, o, es, ep, h1, h2, h3, h4, h5, h6⟩ := dk_of I.hok e
  have all : ∀ {l : List (Key × V)} {vs : List (Key × Value)} {es : List DictEntry} {kvs : List (PyData × D)}, KV l vs -> PySem.Pairs (mixKind X.prog X.w) es vs -> DRs X.K as H (pvK l) kvs -> ∃ xs ys, es.length = kvs.length /\ Vals xs (es.map (·.key)) /\ TDs as H xs (kvs.map (·.1)) /\ Vals ys (es.map (·.val)) /\ RDs X.K as H ys (kvs.map (·.2)) := by
   intro l vs es kvs q
   induction q generalizing es kvs with
   | nil => intro q1 q2; cases q1; cases q2; exact ⟨[], [], rfl, .nil, .nil, .nil, .nil⟩
   | @cons a b _ _ hq t ih =>
    intro q1 q2
    obtain ⟨a1, a2⟩ := a
    obtain ⟨b1, b2⟩ := b
    obtain ⟨hq1, hq2⟩ := hq
    simp only at hq1 hq2
    subst hq1
    cases q1 with
    | cons k1 k2 k3 =>
     have q2' : DRs X.K as H ((kP a1, a2) :: pvK _) kvs := q2
     cases q2' with
     | cons r1 r2 =>
      obtain ⟨xs, ys, i0, i1, i2, i3, i4⟩ := ih k3 r2
      subst k2
      rcases keyIs_shape (show keyIs a1 _ = true from k1) with ⟨j, t', e3, e4⟩ | ⟨y', t', e3, e4⟩
      ·subst e3
       exact ⟨.int j :: xs, a2 :: ys, by simp [i0], .cons ⟨t', e4⟩ i1, .cons (.int j) i2, .cons hq2 i3, .cons r1 i4⟩
      ·subst e3
       exact ⟨.str y' :: xs, a2 :: ys, by simp [i0], .cons ⟨t', e4⟩ i1, .cons (.str y') i2, .cons hq2 i3, .cons r1 i4⟩
  obtain ⟨xs, ys, i0, i1, i2, i3, i4⟩ := all rel h5 r
  refine ⟨es, ep, xs, ys, ⟨o, h1, h2, h3⟩, hd, by rw [← Array.length_toList]; exact i0, by rw [← r.len, pvK_len]; exact z, i1, i2, i3, i4⟩
 ·obtain ⟨z, hd, zs, rel, o, es, ep, h1, h2, h3, h4, h5, h6⟩ := dd_of I.hok e
  have all : ∀ {l : List (PyData × V)} {zs : List (PyData × Addr × Value)} {kvs : List (PyData × D)}, KE H l zs -> DRs X.K as H l kvs -> ∃ xs ys, zs.length = kvs.length /\ Vals xs ((zs.map (entryOfKey (dataKind X.prog X.w))).map (·.key)) /\ TDs as H xs (kvs.map (·.1)) /\ Vals ys ((zs.map (entryOfKey (dataKind X.prog X.w))).map (·.val)) /\ RDs X.K as H ys (kvs.map (·.2)) := by
   intro l zs kvs q
   induction q generalizing kvs with
   | nil => intro q2; cases q2; exact ⟨[], [], rfl, .nil, .nil, .nil, .nil⟩
   | @cons a b _ _ hq t ih =>
    intro q2
    obtain ⟨a1, a2⟩ := a
    obtain ⟨b1, b2, b3⟩ := b
    obtain ⟨hq1, hq2, hq3⟩ := hq
    simp only at hq1 hq2 hq3
    subst hq1
    cases q2 with
    | cons r1 r2 =>
     obtain ⟨xs, ys, i0, i1, i2, i3, i4⟩ := ih r2
     exact ⟨.ref b2 :: xs, a2 :: ys, by simp [i0], .cons rfl i1, .cons (PF.KD.td rl hq2.2) i2, .cons hq3 i3, .cons r1 i4⟩
  obtain ⟨xs, ys, i0, i1, i2, i3, i4⟩ := all rel r
  rw [← h4] at i1 i3
  refine ⟨es, ep, xs, ys, ⟨o, h1, h2, h3⟩, hd, ?_, by rw [← r.len]; exact z, i1, i2, i3, i4⟩
  rw [← Array.length_toList, h4, List.length_map]; exact i0
def fDct0 : FE := fun _ s => .ok (.ref s.length) (s ++ [.dct []])
theorem newD_ok {s : S} {p : Addr} {H' : Hp} {Q : VK} (rl : Rel K as H s) (n : New H p (.dK []) H') (h : Dn K (rD K) as H (.ok (.ref s.length) (s ++ [.dct []])) Q) : Q (.ref p) H' := by
 refine h (.ref p) (as.add p) H' (step_laid n) (rl.laid n (.inl ⟨[], n.at, .nil⟩)) (.ref (by simp [rl.len]) fun q e => ?_)
 rw [← rl.len] at e
 simp at e
 exact e.symm
theorem re_dct0 {pos : Pos} : RE X (.Dict [] [] pos) fDct0 := ⟨_, pe_dnewK, fun as σ H ρ s Q rl en h => fun p hp => newD_ok rl ⟨hp, rfl⟩ h⟩
noncomputable def gDix (dx dy : D) (s : S) : R D := onD dx s fun n kvs => match keyD dy with
 | some k => if kSame kvs k = true then match dGet kvs k with
   | some v => .ok v s
   | none => .bad
  else .bad
 | none => .bad
theorem RD.key_inv {v : V} {d : D} {k : PyData} (r : RD K as H v d) (h : keyD d = some k) : TD as H v k := by
 cases r with
 | da t => cases h; exact t
 | _ => cases h
theorem kP_rel {v : V} {u : Value} {a : Key} (t : TD as H v (kP a)) (r : RelV v u) : RelV (kV a) u := by
 cases a with
 | inl i => cases t; exact r
 | inr x => cases t; exact r
theorem isT_key {k : PyData} (h : isT k = true) : keyOk k = true /\ plD k = true /\ ∃ xs, k = .tuple xs := by
 cases k with
 | tuple xs => exact ⟨h, (keyOk_iff.mp (show keyOk (.tuple xs) = true from h)).1, xs, rfl⟩
 | _ => cases h
theorem td_ref {v : V} {xs : List PyData} (t : TD as H v (.tuple xs)) : ∃ b, v = .ref b := by cases t with | tup n e r => exact ⟨_, rfl⟩
structure Ix2 (X : Cx) (g : D -> D -> S -> R D) : Prop where
 ex : ∃ r, IxR X r /\ Ref2 X.K r g
theorem ix_of {g : D -> D -> S -> R D} (h : ∀ (value slice : Expr) (pins : List (Addr × Obj)) (sh : Shared) (σ : St) (H : Hp) (as : As) (s : S) (x y : V) (dx dy : D) (v u : Value) (Q : VK), Inv X pins σ H sh -> Rel X.K as H s -> RD X.K as H x dx -> RD X.K as H y dy -> RelV x v -> RelV y u ->
  Dn X.K (rD X.K) as H (g dx dy s) Q -> subscripted slice false v u = operate [v, u] (getItem v u) -> wpAny (model X.prog X.w) X.A (subscriptTail value slice v u) (EP X pins σ Q) X.xe sh) : Ix2 X g :=
 ⟨fun x y H Q => ∃ as s dx dy, Rel X.K as H s /\ RD X.K as H x dx /\ RD X.K as H y dy /\ Dn X.K (rD X.K) as H (g dx dy s) Q,
  fun value slice pins sh σ H x y v u Q I rx ry ⟨as, s, dx, dy, rl, r1, r2, q⟩ hs => h value slice pins sh σ H as s x y dx dy v u Q I rl r1 r2 rx ry q hs,
  fun as H s x y dx dy Q rl r1 r2 q => ⟨as, s, dx, dy, rl, r1, r2, q⟩⟩
theorem ix_dct (hu : X.A.units + 70 < cLine) : Ix2 X gDix := ix_of fun value slice pins sh σ H as s x y dx dy v u Q I rl r1 r2 rx ry h hs => by
 obtain ⟨p, n, kvs, rfl, rfl, ha, e, ro, h⟩ := onD_ok rl r1 h
 cases rx
 split at h
 ·rename_i k hk
  split at h
  ·rename_i hsm
   split at h
   ·rename_i d hd
    have ty := r2.key_inv hk
    obtain ⟨es, ep, _, _, raw, _⟩ := td_vals I rl ro
    rcases ro_kind ro hsm with ⟨l, a, rfl, eh, dr⟩ | ⟨l, it, dd, dr⟩
    ·obtain ⟨w, ew, rw'⟩ := (dr.get (kP a)).1 d hd
     rw [val_pv] at ew
     obtain ⟨z, hsm2, vs, rel, dct⟩ := dk_of I.hok eh
     obtain ⟨w', hw, rw2⟩ := RelO.some_of (v := w) (o := valueAt vs a) (by rw [← ew]; exact rel.val a)
     exact PyProof.Rows.subscriptTail_builtinR (x := w') raw.typeIs PySem.F.slot_dict_getitem.lookup (wpAny_getItem_of (kV_is (kP_rel ty ry)) dct.mapOf hw ⟨rfl, ⟨w, H, I.tok _, rw2, Dn.now (Q := Q) h rl rw'⟩⟩) hs
    ·obtain ⟨w, ew, rw'⟩ := (dr.get k).1 d hd
     obtain ⟨kok, kpl, ks, rfl⟩ := isT_key it
     obtain ⟨b, rfl⟩ := td_ref ty
     cases ry
     obtain ⟨z, hsm2, xs, rel, dct⟩ := dd.rd I.hok
     obtain ⟨w', hw, rw2⟩ := RelO.some_of (v := w) (o := (atKey xs (.tuple ks)).map (·.2)) (by rw [← ew]; exact rel.val _)
     obtain ⟨q, hq, hq2⟩ := Option.map_eq_some_iff.mp hw
     exact PyProof.Rows.subscriptTail_builtinR (x := w') raw.typeIs PySem.F.slot_dict_getitem.lookup (wpAny_getItem_heap (dk_room (by omega)) (kd_is I.hok kok (TD.kd ty kpl)) dct hq ⟨hq2, ⟨w, H, I.tok _, hq2 ▸ rw2, Dn.now (Q := Q) h rl rw'⟩⟩) hs
   ·exact h.elim
  ·exact h.elim
 ·exact h.elim
noncomputable def gIx2 (dx dy : D) (s : S) : R D := match dx with
 | .ref n => match s[n]? with
  | some (.dct kvs) => gDix dx dy s
  | _ => gIx dx dy s
 | _ => gIx dx dy s
theorem ix_two (hu : X.A.units + 70 < cLine) : Ix2 X gIx2 := by
 obtain ⟨r, h1, h2⟩ := (ix_dct (X := X) hu).ex
 refine ⟨_, h1.or ix_seq, fun as H s x y dx dy Q rl r1 r2 h => ?_⟩
 unfold gIx2 at h
 split at h
 ·split at h
  ·exact .inl (h2 as H s x y _ dy Q rl r1 r2 h)
  ·exact .inr (ref_ix as H s x y _ dy Q rl r1 r2 h)
 ·exact .inr (ref_ix as H s x y _ dy Q rl r1 r2 h)
theorem re_ix2 {a b : Expr} {fa fb : FE} {pos : Pos} {g : D -> D -> S -> R D} (o : Ix2 X g) (ha : RE X a fa) (hb : RE X b fb) (hs : PlainIx b := by exact fun _ _ => rfl) : RE X (.Subscript a b pos) (fOp g fa fb) := by
 obtain ⟨r, h1, h2⟩ := o.ex
 obtain ⟨ta, pa, ra⟩ := ha.ex
 obtain ⟨tb, pb, rb⟩ := hb.ex
 exact ⟨_, pe_ix h1 pa pb hs, ref_op h2 ra rb⟩
noncomputable def gDin (neg : Bool) (dx dy : D) (s : S) : R D := onD dy s fun n kvs => match keyD dx with
 | some k => if kSame kvs k = true then .ok (.bl (nb neg (dGet kvs k).isSome)) s else .bad
 | none => .bad
theorem DRs.isSome {l : List (PyData × V)} {kvs : List (PyData × D)} (h : DRs K as H l kvs) (k : PyData) : (valV l k).isSome = (dGet kvs k).isSome := by
 cases e : dGet kvs k with
 | none => rw [(h.get k).2 e]; rfl
 | some d => obtain ⟨v, ev, _⟩ := (h.get k).1 d e; rw [ev]; rfl
theorem din_ok (neg : Bool) {op : CmpOp} (hop : (neg = false /\ op = .In) \/ (neg = true /\ op = .NotIn)) (hu : X.A.units + 70 < cLine) : Op2 X (compareOp op) (gDin neg) := op2_of fun pins sh σ H as s x y dx dy v u Q I rl r1 r2 rx ry h => by
 obtain ⟨p, n, kvs, rfl, rfl, ha, e, ro, h⟩ := onD_ok rl r2 h
 cases ry
 split at h
 ·rename_i k hk
  split at h
  ·rename_i hsm
   have ty := r1.key_inv hk
   rcases ro_kind ro hsm with ⟨l, a, rfl, eh, dr⟩ | ⟨l, it, dd, dr⟩
   ·have es : (valV l a).isSome = (dGet kvs (kP a)).isSome := by rw [← dr.isSome, val_pv]
    have dg : DGet H p (kV a) (valV l a) := DGet.k eh
    rcases hop with ⟨rfl, rfl⟩ | ⟨rfl, rfl⟩
    ·exact L2.d_in (by omega) I dg (kP_rel ty rx) fun s' I' => ⟨.bl _, H, I', by rw [es]; rfl, Dn.now (Q := Q) h rl (.da (.bl _))⟩
    ·exact L2.d_notIn (by omega) I dg (kP_rel ty rx) fun s' I' => ⟨.bl _, H, I', by rw [es]; rfl, Dn.now (Q := Q) h rl (.da (.bl _))⟩
   ·obtain ⟨kok, kpl, ks, rfl⟩ := isT_key it
    obtain ⟨b, rfl⟩ := td_ref ty
    cases rx
    have es := dr.isSome (.tuple ks)
    rcases hop with ⟨rfl, rfl⟩ | ⟨rfl, rfl⟩
    ·exact dd_in (by omega) I dd kok (TD.kd ty kpl) fun s' I' => ⟨.bl _, H, I', by rw [es]; rfl, Dn.now (Q := Q) h rl (.da (.bl _))⟩
    ·exact dd_notIn (by omega) I dd kok (TD.kd ty kpl) fun s' I' => ⟨.bl _, H, I', by rw [es]; rfl, Dn.now (Q := Q) h rl (.da (.bl _))⟩
  ·exact h.elim
 ·exact h.elim
noncomputable def gIn2 (neg : Bool) (dx dy : D) (s : S) : R D := match dy with
 | .ref n => match s[n]? with
  | some (.dct kvs) => gDin neg dx dy s
  | _ => gInB neg dx dy s
 | _ => gInB neg dx dy s
theorem in2_ok (neg : Bool) {op : CmpOp} (hop : (neg = false /\ op = .In) \/ (neg = true /\ op = .NotIn)) (hu : X.A.units + 70 < cLine) : Op2 X (compareOp op) (gIn2 neg) := op2_of fun pins sh σ H as s x y dx dy v u Q I rl r1 r2 rx ry h => by
 unfold gIn2 at h
 split at h
 ·split at h
  ·obtain ⟨r, ho, hr⟩ := (din_ok (X := X) neg hop hu).ex
   exact ho pins sh σ H x y v u Q I rx ry (hr as H s x y _ _ Q rl r1 r2 h)
  ·obtain ⟨r, ho, hr⟩ := (in_ok (X := X) neg hop (by omega)).ex
   exact ho pins sh σ H x y v u Q I rx ry (hr as H s x y _ _ Q rl r1 r2 h)
 ·obtain ⟨r, ho, hr⟩ := (in_ok (X := X) neg hop (by omega)).ex
  exact ho pins sh σ H x y v u Q I rx ry (hr as H s x y _ _ Q rl r1 r2 h)
theorem o_in2 (hu : X.A.units + 70 < cLine) : Op2 X (compareOp .In) (gIn2 false) := in2_ok false (.inl ⟨rfl, rfl⟩) hu
end
end PF
namespace PF
open PySem PySem.Spec
open L2
section
variable {X : Cx} {K : PySem.W.Frag} {as : As} {H : Hp}
noncomputable def gDset (o i v : D) (s : S) : R D := onD o s fun n kvs => match keyD i with
 | some k => if kSame kvs k = true /\ kvs.length < sizeLine then .ok .non (s.set n (.dct (dPut kvs k v))) else .bad
 | none => .bad
noncomputable def gSet2 (o i v : D) (s : S) : R D := match o with
 | .ref n => match s[n]? with
  | some (.dct kvs) => gDset o i v s
  | _ => gSet o i v s
 | _ => gSet o i v s
theorem chgD_ok {s : S} {p : Addr} {n : Nat} {H' : Hp} {o : HO} {d : D} {v : V} {kvs : List (PyData × D)} {Q : VK} (rl : Rel K as H s) (ha : as.ix[n]? = some (some p)) (c : Chg H p o H') (ro : RO K as H' p (.dct kvs)) (rv : RD K as H v d) (h : Dn K (rD K) as H (.ok d (s.set n (.dct kvs))) Q) : Q v H' := by
 have st := step_chg (mem_as.mpr ⟨n, ha⟩) (fun z => rl.hx p z (mem_as.mpr ⟨n, ha⟩)) c
 exact h v as H' st (rl.chg ha c ro) (rv.mono st)
theorem isT_all {l : List (PyData × V)} {k : PyData} {v : V} (hl : (l.all fun e => isT e.1) = true) (hk : isT k = true) : ((putK l k v).all fun e => isT e.1) = true := by
 rw [List.all_eq_true] at hl ⊢
 intro e he
 unfold putK at he
 split at he
 ·obtain ⟨e', h1, h2⟩ := List.mem_map.mp he
  split at h2
  ·subst h2; exact hl e' h1
  ·subst h2; exact hl _ h1
 ·rcases List.mem_append.mp he with h | h
  ·exact hl e h
  ·rw [List.mem_singleton] at h
   subst h; exact hk
theorem putK_ne {κ : Type} [DecidableEq κ] (l : List (κ × V)) (k : κ) (v : V) : putK l k v ≠ [] := by
 unfold putK
 split
 ·rename_i h
  cases l with
  | nil => simp at h
  | cons a b => simp
 ·simp
theorem ro_all {p : Addr} {kvs : List (PyData × D)} (h : RO K as H p (.dct kvs)) {l : List (PyData × V)} (dd : DD H p l) : (l.all fun e => isT e.1) = true := by
 rcases dd with e | ⟨_, rfl⟩
 ·rcases h with ⟨l', e', _⟩ | ⟨l', h0, e', _⟩
  ·rw [e] at e'; cases e'
  ·rw [e] at e'; cases e'; exact h0.2
 ·rfl
theorem set_dct (hu : X.A.units + 70 < cLine) {pins : List (Addr × Obj)} {sh : Shared} {σ : St} {H : Hp} {as : As} {s : S} {x y z : V} {dx dy dz : D} {v u r : Value} {Q : VK} (I : Inv X pins σ H sh) (rl : Rel X.K as H s) (r1 : RD X.K as H x dx) (r2 : RD X.K as H y dy) (r3 : RD X.K as H z dz) (rx : RelV x v) (ry : RelV y u) (rz : RelV z r)
  (h : Dn X.K (rD X.K) as H (gDset dx dy dz s) Q) : wpAny (model X.prog X.w) X.A (setItem v u r) (fun _ s' => ∃ H', Inv X pins σ H' s' /\ Q .non H') X.xe sh := by
 obtain ⟨p, n, kvs, rfl, rfl, ha, e, ro, h⟩ := onD_ok rl r1 h
 cases rx
 split at h
 ·rename_i k hk
  split at h
  ·rename_i hsm
   obtain ⟨hsm, hlen⟩ := hsm
   have ty := r2.key_inv hk
   rcases ro_kind ro hsm with ⟨l, a, rfl, eh, dr⟩ | ⟨l, it, dd, dr⟩
   ·have hl : l.length < sizeLine := by rw [← pvK_len, dr.len]; exact hlen
    refine d_setItem (by omega) I (DPut.k (k := a) (v := z) eh hl) (kP_rel ty ry) rz fun s' I' => ⟨_, I', ?_⟩
    have c : Chg H p (.dK (putK l a z)) (upd H p (.dK (putK l a z))) := ⟨rfl⟩
    have st := step_chg (mem_as.mpr ⟨n, ha⟩) (fun q => rl.hx p q (mem_as.mpr ⟨n, ha⟩)) c
    refine chgD_ok (v := .non) rl ha c (.inl ⟨_, c.at, ?_⟩) (.da .non) h
    rw [put_pv]
    exact (dr.put r3 (kP a)).mono st
   ·obtain ⟨kok, kpl, ks, rfl⟩ := isT_key it
    obtain ⟨b, rfl⟩ := td_ref ty
    cases ry
    have hl : l.length < sizeLine := by rw [dr.len]; exact hlen
    refine dd_setItem (by omega) I dd hl kok (TD.kd ty kpl) rz fun s' I' => ⟨_, I', ?_⟩
    have c : Chg H p (.dD (putK l (.tuple ks) z)) (upd H p (.dD (putK l (.tuple ks) z))) := ⟨rfl⟩
    have st := step_chg (mem_as.mpr ⟨n, ha⟩) (fun q => rl.hx p q (mem_as.mpr ⟨n, ha⟩)) c
    exact chgD_ok (v := .non) rl ha c (.inr ⟨_, ⟨putK_ne _ _ _, isT_all (ro_all ro dd) it⟩, c.at, (dr.put r3 _).mono st⟩) (.da .non) h
  ·exact h.elim
 ·exact h.elim
def fSetIt2 (g : D -> D -> D -> S -> R D) (fv fo fi : FE) : FS := fun ρ s => (fv ρ s).bind fun v s1 => (fo ρ s1).bind fun o s2 => (fi ρ s2).bind fun i s3 => (g o i v s3).bind fun _ s4 => .ok (.nx ρ) s4
structure Set2 (X : Cx) (g : D -> D -> D -> S -> R D) : Prop where
 run : ∀ (pins : List (Addr × Obj)) (sh : Shared) (σ : St) (H : Hp) (as : As) (s : S) (x y z : V) (dx dy dz : D) (v u r : Value) (Q : VK), Inv X pins σ H sh -> Rel X.K as H s -> RD X.K as H x dx -> RD X.K as H y dy -> RD X.K as H z dz -> RelV x v -> RelV y u -> RelV z r ->
  Dn X.K (rD X.K) as H (g dx dy dz s) Q -> wpAny (model X.prog X.w) X.A (setItem v u r) (fun _ s' => ∃ H', Inv X pins σ H' s' /\ Q .non H') X.xe sh
theorem set_two (hu : X.A.units + 70 < cLine) : Set2 X gSet2 := ⟨fun pins sh σ H as s x y z dx dy dz v u r Q I rl r1 r2 r3 rx ry rz h => by
 have lst : Dn X.K (rD X.K) as H (gSet dx dy dz s) Q -> wpAny (model X.prog X.w) X.A (setItem v u r) (fun _ s' => ∃ H', Inv X pins σ H' s' /\ Q .non H') X.xe sh := fun h => by
  unfold gSet at h
  split at h
  ·cases r2.int_inv
   obtain ⟨p, n, xs, ds, rfl, ha, hx, rs, h⟩ := onL_ok rl r1 h
   split at h
   ·rename_i j e
    exact set_listN pins sh σ H _ _ z v u r (Q .non) I rx ry rz ⟨p, xs, _, j, rfl, rfl, hx, by rw [rs.length]; exact e, fun H' c => chg_ok (v := .non) (o := .lst []) rl ha c (rs.set j r3) (.da .non) h⟩
   ·exact h.elim
  ·exact h.elim
 unfold gSet2 at h
 split at h
 ·split at h
  ·exact set_dct hu I rl r1 r2 r3 rx ry rz h
  ·exact lst h
 ·exact lst h⟩
theorem rs_sub2 {o i e : Expr} {fo fi fv : FE} {pos pos' : Pos} {g : D -> D -> D -> S -> R D} (hg : Set2 X g) (he : RE X e fv) (ho : RE X o fo) (hi : RE X i fi) (ha : ∀ v, assign (.Subscript o i pos') X.env v = (do
   let ov ← holding [v] (eval o X.env)
   let iv ← holding [v, ov] (eval i X.env)
   standAt pos'
   holding [v, ov, iv] (setItem ov iv v)
   release [v, ov, iv] []) := by intro _; rfl) (hs : swapsWithSole [.Subscript o i pos'] e pos.line X.env = pure false := by rfl) (hw : swappedStores [.Subscript o i pos'] e X.env = pure none := by rfl)
  (h1 : (assignEach [.Subscript o i pos'] X.env).map (·.2) = [assign (.Subscript o i pos') X.env] := by rfl) : RS X (.Assign [.Subscript o i pos'] e pos) (fSetIt2 g fv fo fi) := by
 obtain ⟨te, pe, re⟩ := he.ex
 obtain ⟨to, po, ro⟩ := ho.ex
 obtain ⟨ti, pi, ri⟩ := hi.ex
 have hset : PSet X (fun x y z H Q => ∃ as s dx dy dz, Rel X.K as H s /\ RD X.K as H x dx /\ RD X.K as H y dy /\ RD X.K as H z dz /\ Dn X.K (rD X.K) as H (g dx dy dz s) (fun _ H' => Q H')) := fun pins s σ H o i v ov iv u Q I rx ry rz ⟨as, s', dx, dy, dz, rl, a, b, c, q⟩ => hg.run pins s σ H as s' o i v dx dy dz ov iv u _ I rl a b c rx ry rz q
 refine ⟨_, ps_asg pe (pg_sub po pi hset ha) hs hw h1, fun as σ H ρ s D rl en h => ?_⟩
 refine re as σ H ρ s _ rl en (Dn.bind h fun v s1 as1 H1 vv st1 rl1 r1 h1 => ?_)
 refine ro as1 σ H1 ρ s1 _ rl1 (en.mono st1) (Dn.bind h1 fun o s2 as2 H2 ov st2 rl2 r2 h2 => ?_)
 refine ri as2 σ H2 ρ s2 _ rl2 ((en.mono st1).mono st2) (Dn.bind h2 fun i s3 as3 H3 iv st3 rl3 r3 h3 => ?_)
 have en3 := ((en.mono st1).mono st2).mono st3
 exact ⟨as3, s3, o, i, v, rl3, r2.mono st3, r3, (r1.mono st2).mono st3, Dn.bind h3 fun d s4 as4 H4 vv st4 rl4 r4 h4 => Dn.now (b := FV.nx σ) h4 rl4 (.nx (en3.mono st4))⟩
def fMd (g : GM) (fo : FE) (fa : FA) : FE := fun ρ s => (fo ρ s).bind fun d s1 => onD d s1 fun _ _ => (fa ρ s1).bind fun ds s2 => g d ds s2
theorem raw_type {pins : List (Addr × Obj)} {σ : St} {sh : Shared} {s : S} {p : Addr} {kvs : List (PyData × D)} (I : Inv X pins σ H sh) (rl : Rel X.K as H s) (h : RO X.K as H p (.dct kvs)) : sh.TypeIs (.ref p) "dict" /\ ∀ a, Value.ref p = .ref a -> ∃ ob, sh.heap.get? a = some ob /\ ob.dict = none := by
 obtain ⟨es, ep, _, _, raw, _⟩ := td_vals I rl h
 refine ⟨raw.typeIs, fun a e => ?_⟩
 cases e
 obtain ⟨o, ho, hc, _⟩ := raw
 exact ⟨o, ho, hc.2.1⟩
theorem re_md {o e : Expr} {es : List Expr} {fo : FE} {fa : FA} {name : Str} {id : String} {g : GM} {apos cpos : Pos} (slot : Slot "dict" name id) (hty : typeOf (.builtin id) = pure (.type "method_descriptor")) (hm : MB X id g) (ho : RE X o fo) (ha : RA X (e :: es) fa)
  (hbase : attributeBase o name X.env (eval o X.env) = eval o X.env := by rfl)
  (hfew : ((backTo cpos (starEach (e :: es) X.env)).all (fun x => !x.1) && (backToKw cpos (keywordEach [] X.env)).all (fun x => x.1.isSome)
   && decide ((e :: es).length + ([] : List Keyword).length + (if ([] : List Keyword).isEmpty then 0 else 1) < 30)) = true := by rfl)
  (hline : (apos.endLine == cpos.line) = true := by rfl) (hs : starEach (e :: es) X.env = (false, eval e X.env) :: starEach es X.env := by rfl) (hplain : (backTo cpos (starEach es X.env)).any (·.1) = false := by rfl) :
  RE X (.Call (.Attribute o name apos) (e :: es) [] cpos) (fMd g fo fa) := by
 obtain ⟨r, hr, hg⟩ := hm.ex
 obtain ⟨to, po, ro⟩ := ho.ex
 obtain ⟨ta, pa, ra⟩ := ha.ex
 refine ⟨fun σ H Q => to σ H fun x H1 => ∃ as s p kvs, x = .ref p /\ Rel X.K as H1 s /\ RO X.K as H1 p (.dct kvs) /\ ta σ H1 fun vs H2 => r x vs H2 Q, ⟨fun pins s σ H Q I h => ?_⟩, fun as σ H ρ s Q rl en h => ?_⟩
 ·refine wpAny_Call_method_late hbase hfew hline rfl (thn (po pins s σ H _ I h) fun v s1 ⟨x, H1, I1, r1, as, s', p, kvs, ex, rl, rro, q1⟩ => ?_)
  subst ex
  cases r1
  obtain ⟨h1, h2⟩ := raw_type I1 rl rro
  refine ⟨"dict", id, PySem.F.plainAttrs_dict, slot, hty, h1, h2, ?_⟩
  have hA := pa cpos pins s1 σ H1 _ I1 q1
  rw [hs] at hA ⊢
  refine Calls.callWith_builtin (by show (false || (backTo cpos (starEach es X.env)).any (·.1)) = false; rw [hplain] <;> rfl) (Calls.evalArgs_plain ?_)
  exact thn hA fun us s2 ⟨vs, H2, I2, r2, q2⟩ => hr pins s2 σ H2 (.ref p) vs (.ref p) us Q I2 rfl r2 q2
 ·refine ro as σ H ρ s _ rl en (Dn.bind h fun d s1 as1 H1 v st1 rl1 r1 h1 => ?_)
  obtain ⟨p, n, kvs, rfl, rfl, hx, e, rro, h1⟩ := onD_ok rl1 r1 h1
  refine ⟨as1, s1, p, kvs, rfl, rl1, rro, ra as1 σ H1 ρ s1 _ rl1 (en.mono st1) (Dn.bind h1 fun ds s2 as2 H2 vs st2 rl2 r2 h2 => ?_)⟩
  exact hg as2 H2 s2 (.ref p) vs (.ref n) ds Q rl2 (r1.mono st2) r2 h2
noncomputable def gDget : GM := fun d ds s => match ds with
 | [kd] => onD d s fun n kvs => match keyD kd with
  | some k => if kSame kvs k = true then .ok ((dGet kvs k).getD .non) s else .bad
  | none => .bad
 | [kd, x] => onD d s fun n kvs => match keyD kd with
  | some k => if kSame kvs k = true then .ok ((dGet kvs k).getD x) s else .bad
  | none => .bad
 | _ => .bad
theorem DRs.getD {l : List (PyData × V)} {kvs : List (PyData × D)} (h : DRs K as H l kvs) (k : PyData) {v : V} {d : D} (r : RD K as H v d) : RD K as H ((valV l k).getD v) ((dGet kvs k).getD d) := by
 cases e : dGet kvs k with
 | none => rw [(h.get k).2 e]; exact r
 | some x => obtain ⟨w, ew, rw'⟩ := (h.get k).1 x e; rw [ew]; exact rw'
theorem m_dget (hu : X.A.units + 70 < cLine) : MB X "dict.get" gDget := by
 refine ⟨fun x xs H Q => ∃ as s d ds, Rel X.K as H s /\ RD X.K as H x d /\ RDs X.K as H xs ds /\ Dn X.K (rD X.K) as H (gDget d ds s) Q, fun pins sh σ H x xs v us Q I rx rs ⟨as, s, d, ds, rl, r1, r2, h⟩ => ?_, fun as H s x xs d ds Q rl r1 r2 h => ⟨as, s, d, ds, rl, r1, r2, h⟩⟩
 unfold gDget at h
 split at h
 ·rename_i kd
  obtain ⟨y, rfl, ry⟩ := r2.one
  obtain ⟨u, rfl, ru⟩ := vals1 rs
  obtain ⟨p, n, kvs, rfl, rfl, ha, e, ro, h⟩ := onD_ok rl r1 h
  cases rx
  split at h
  ·rename_i k hk
   split at h
   ·rename_i hsm
    have ty := ry.key_inv hk
    rcases ro_kind ro hsm with ⟨l, a, rfl, eh, dr⟩ | ⟨l, it, dd, dr⟩
    ·refine d_get1 (by omega) I (DGet.k (k := a) eh) (kP_rel ty ru) fun w' s' I' rw' => ⟨_, H, I', rw', ?_⟩
     have := dr.getD (kP a) (v := .non) (d := .non) (.da .non)
     rw [val_pv] at this
     exact Dn.now (Q := Q) h rl this
    ·obtain ⟨kok, kpl, ks, rfl⟩ := isT_key it
     obtain ⟨b, rfl⟩ := td_ref ty
     cases ru
     exact dd_get1 (by omega) I dd kok (TD.kd ty kpl) fun w' s' I' rw' => ⟨_, H, I', rw', Dn.now (Q := Q) h rl (dr.getD _ (v := .non) (d := .non) (.da .non))⟩
   ·exact h.elim
  ·exact h.elim
 ·rename_i kd xd
  obtain ⟨y, z, rfl, ry, rz⟩ := r2.two
  obtain ⟨u, u2, rfl, ru, ru2⟩ := rs.two
  obtain ⟨p, n, kvs, rfl, rfl, ha, e, ro, h⟩ := onD_ok rl r1 h
  cases rx
  split at h
  ·rename_i k hk
   split at h
   ·rename_i hsm
    have ty := ry.key_inv hk
    rcases ro_kind ro hsm with ⟨l, a, rfl, eh, dr⟩ | ⟨l, it, dd, dr⟩
    ·refine d_get2 (by omega) I (DGet.k (k := a) eh) (kP_rel ty ru) ru2 fun w' s' I' rw' => ⟨_, H, I', rw', ?_⟩
     have := dr.getD (kP a) rz
     rw [val_pv] at this
     exact Dn.now (Q := Q) h rl this
    ·obtain ⟨kok, kpl, ks, rfl⟩ := isT_key it
     obtain ⟨b, rfl⟩ := td_ref ty
     cases ru
     exact dd_get2 (by omega) I dd kok (TD.kd ty kpl) ru2 fun w' s' I' rw' => ⟨_, H, I', rw', Dn.now (Q := Q) h rl (dr.getD _ rz)⟩
   ·exact h.elim
  ·exact h.elim
 ·exact h.elim
end
end PF
namespace PF
open PySem PySem.Spec
open L2
section
variable {X : Cx} {K : PySem.W.Frag} {as : As} {H : Hp}
def dctD (s : S) : D -> Option (List (PyData × D))
 | .ref n => match s[n]? with
  | some (.dct kvs) => some kvs
  | _ => none
 | _ => none
theorem dctD_ok {s : S} {d : D} {v : V} {kvs : List (PyData × D)} (rl : Rel K as H s) (r : RD K as H v d) (h : dctD s d = some kvs) : ∃ p n, v = .ref p /\ d = .ref n /\ as.ix[n]? = some (some p) /\ s[n]? = some (.dct kvs) /\ RO K as H p (.dct kvs) := by
 cases r with
 | @ref p n l hr =>
  have h : (match s[n]? with | some (O.dct kvs) => some kvs | _ => none) = some kvs := h
  split at h
  ·rename_i e
   cases h
   obtain ⟨h1, h2⟩ := ref_dct rl hr e
   exact ⟨p, n, rfl, rfl, h1, e, h2⟩
  ·cases h
 | _ => cases h
theorem cb_run {f : Value} {g : FF} (c : CB X f g) {pins : List (Addr × Obj)} {sh : Shared} {σ : St} {H : Hp} {as : As} {s : S} {xs : List V} {ds : List D} {us : List Value} {Q : VK} (I : Inv X pins σ H sh) (rl : Rel X.K as H s) (rs : RDs X.K as H xs ds) (ru : Vals xs us) (h : Dn X.K (rD X.K) as H (g ds s) Q) : wpAny (model X.prog X.w) X.A (call f us) (EP X pins σ Q) X.xe sh := by
 obtain ⟨r, h1, h2⟩ := c.ex
 exact h1 pins sh σ H xs us Q I ru (h2 as H s xs ds Q rl rs h)
def gList2 (m : Bool) (ds : List D) (s : S) : R D := match ds with
 | [d] => match dctD s d with
  | some kvs => newL m (kvs.map fun e => D.da e.1) s
  | none => gList m ds s
 | _ => gList m ds s
theorem items_eq {es : Array DictEntry} {acc : Array Value} (it : ItemsOf (fun i v => es[i]?.map (·.key) = some v) acc es.size) : acc.toList = es.toList.map (·.key) := by
 have ea : acc = es.map (·.key) := by
  apply Array.ext_getElem?
  intro i
  rw [Array.getElem?_map]
  cases c : acc[i]? with
  | some v => exact (it.2 i v c).symm
  | none =>
   have : acc.size <= i := Array.getElem?_eq_none_iff.mp c
   rw [it.1] at this
   rw [Array.getElem?_eq_none_iff.mpr this]; rfl
 rw [ea, Array.toList_map]
theorem keys_map (kvs : List (PyData × D)) : (kvs.map fun e => D.da e.1) = (kvs.map (·.1)).map D.da := by rw [List.map_map]; rfl
theorem c_list2 (m : Bool) (hh : X.A.handled = none) : CB X (.type "list") (gList2 m) := cb_of fun pins sh σ H as s xs ds us Q I rl rs ru h => by
 unfold gList2 at h
 split at h
 ·rename_i d
  split at h
  ·rename_i kvs e
   obtain ⟨v, rfl, rv⟩ := rs.one
   obtain ⟨u, rfl, ruv⟩ := vals1 ru
   obtain ⟨p, n, rfl, rfl, ha, e2, ro⟩ := dctD_ok rl rv e
   cases ruv
   obtain ⟨es, ep, zs, ys, raw, hsm, hsz, hz, vz, tz, _⟩ := td_vals I rl ro
   refine PySem.W.kdl_call (src_keys (es := es) (ep := ep) hsm) hh raw (by omega) fun h' tk acc c kp g it => ?_
   have ea := items_eq it
   have hlz : zs.length <= sizeLine := by rw [tz.length, List.length_map]; exact hz
   have I2 : Inv X pins σ (upd H sh.heap.objs.size (.lst zs)) { sh with heap := h', toks := tk } := I.laid (t' := tk) kp (Nat.le_refl _) ⟨hlz, acc.toList, c, by rw [ea]; exact vz, by simpa using g⟩
   have nw : New H sh.heap.objs.size (.lst zs) (upd H sh.heap.objs.size (.lst zs)) := ⟨I.hok.fresh (Nat.le_refl _), rfl⟩
   rw [keys_map] at h
   exact ⟨.ref sh.heap.objs.size, _, I2, rfl, newL_ok h rl tz.rd nw⟩
  ·exact cb_run (c_list m) I rl rs ru h
 ·exact cb_run (c_list m) I rl rs ru h
end
end PF
namespace PF
open PySem PySem.Spec
open L2
section
variable {X : Cx} {K : PySem.W.Frag} {as : As} {H : Hp}
theorem dset_ok (hu : X.A.units + 70 < cLine) {pins : List (Addr × Obj)} {sh : Shared} {σ : St} {H : Hp} {as : As} {s : S} {p : Addr} {y z : V} {n : Nat} {dy dz : D} {u r : Value} {Q : VK} {E : Value -> Shared -> Prop} (I : Inv X pins σ H sh) (rl : Rel X.K as H s) (r1 : RD X.K as H (.ref p) (.ref n)) (r2 : RD X.K as H y dy) (r3 : RD X.K as H z dz) (ry : RelV y u) (rz : RelV z r)
  (h : Dn X.K (rD X.K) as H (gDset (.ref n) dy dz s) Q) : wpAny (model X.prog X.w) X.A (dictSet p u r) (fun _ s' => ∃ H', Inv X pins σ H' s' /\ Q .non H') E sh := by
 obtain ⟨p', n', kvs, e0, e1, ha, e, ro, h⟩ := onD_ok rl r1 h
 cases e0; cases e1
 split at h
 ·rename_i k hk
  split at h
  ·rename_i hsm
   obtain ⟨hsm, hlen⟩ := hsm
   have ty := r2.key_inv hk
   rcases ro_kind ro hsm with ⟨l, a, rfl, eh, dr⟩ | ⟨l, it, dd, dr⟩
   ·have hl : l.length < sizeLine := by rw [← pvK_len, dr.len]; exact hlen
    obtain ⟨zz, hd, vs, rel, dct⟩ := dk_of I.hok eh
    have hl' : (putK l a z).length <= sizeLine := by have := length_putK l a z; omega
    refine wpAny_dictSet_pairs (hsz := by rw [← rel.length]; exact zz) (kV_is (kP_rel ty ry)) dct fun h' dd' hs => ?_
    have he : ∃ q, h'.get? p = some q := let ⟨q, _, _, hq, _⟩ := dd'; ⟨q, hq⟩
    refine ⟨_, d_write I (by rw [eh]; exact True.intro) hs he (dk_new hl' hd (rel.put a rz) dd'), ?_⟩
    have c : Chg H p (.dK (putK l a z)) (upd H p (.dK (putK l a z))) := ⟨rfl⟩
    have st := step_chg (mem_as.mpr ⟨n, ha⟩) (fun q => rl.hx p q (mem_as.mpr ⟨n, ha⟩)) c
    refine chgD_ok (v := .non) rl ha c (.inl ⟨_, c.at, ?_⟩) (.da .non) h
    rw [put_pv]
    exact (dr.put r3 (kP a)).mono st
   ·obtain ⟨kok, kpl, ks, rfl⟩ := isT_key it
    obtain ⟨b, rfl⟩ := td_ref ty
    cases ry
    have hl : l.length < sizeLine := by rw [dr.len]; exact hlen
    obtain ⟨zz, hd, xs, rel, dct⟩ := dd.rd I.hok
    have hl' : (putK l (.tuple ks) z).length <= sizeLine := by have := length_putK l (.tuple ks) z; omega
    refine wpAny_dictSet_heap (hsz := by rw [← Paired.length rel]; exact zz) (show (dataKind X.prog X.w).room X.A from (show X.A.units + 10 < cLine by omega)) (kd_is I.hok kok (TD.kd ty kpl)) dct fun h' dd' hs => ?_
    have he : ∃ q, h'.get? p = some q := let ⟨q, _, _, hq, _⟩ := dd'; ⟨q, hq⟩
    have ht : ∀ c ys, H c = some (.tup ys) -> upd H p (.dD (putK l (.tuple ks) z)) c = some (.tup ys) := fun c ys q => by
     rw [upd_ne (fun y => by subst y; rcases dd with e | ⟨e, _⟩ <;> (rw [e] at q; cases q))]; exact q
    refine ⟨_, d_write I dd.mut hs he (dd_put hl' hd (rel.put kok (TD.kd ty kpl) rz) ht dd'), ?_⟩
    have c : Chg H p (.dD (putK l (.tuple ks) z)) (upd H p (.dD (putK l (.tuple ks) z))) := ⟨rfl⟩
    have st := step_chg (mem_as.mpr ⟨n, ha⟩) (fun q => rl.hx p q (mem_as.mpr ⟨n, ha⟩)) c
    exact chgD_ok (v := .non) rl ha c (.inr ⟨_, ⟨putK_ne _ _ _, isT_all (ro_all ro dd) it⟩, c.at, (dr.put r3 _).mono st⟩) (.da .non) h
  ·exact h.elim
 ·exact h.elim
abbrev FP := En -> S -> R (List (D × D))
inductive RPs (K : PySem.W.Frag) (as : As) (H : Hp) : List (V × V) -> List (D × D) -> Prop
 | nil : RPs K as H [] []
 | cons {x y : V} {a b : D} {ps : List (V × V)} {ds : List (D × D)} : RD K as H x a -> RD K as H y b -> RPs K as H ps ds -> RPs K as H ((x, y) :: ps) ((a, b) :: ds)
theorem RPs.mono {as' : As} {H' : Hp} (st : Step as H as' H') {ps : List (V × V)} {ds : List (D × D)} (h : RPs K as H ps ds) : RPs K as' H' ps ds := by
 induction h with
 | nil => exact .nil
 | cons a b t ih => exact .cons (a.mono st) (b.mono st) ih
def fpNil : FP := fun _ s => .ok [] s
def fpCons (fk fv : FE) (r : FP) : FP := fun ρ s => (fk ρ s).bind fun k s1 => (fv ρ s1).bind fun v s2 => (r ρ s2).bind fun ps s3 => .ok ((k, v) :: ps) s3
structure RP (X : Cx) (pos : Pos) (keys : List (Option Expr)) (values : List Expr) (f : FP) : Prop where
 ex : ∃ trs, PPs X pos keys values trs /\ ∀ as σ H ρ s Q, Rel X.K as H s -> Envs X.K as H ρ σ -> Dn X.K (RPs X.K) as H (f ρ s) Q -> tPairs trs σ H Q
theorem rp_nil {pos : Pos} : RP X pos [] [] fpNil := ⟨[], pps_nil, fun as σ H ρ s Q rl en h => Dn.now (Q := Q) h rl .nil⟩
theorem rp_cons {pos : Pos} {k v : Expr} {ks : List (Option Expr)} {vs : List Expr} {fk fv : FE} {f : FP} (hk : RE X k fk) (hv : RE X v fv) (hr : RP X pos ks vs f) : RP X pos (some k :: ks) (v :: vs) (fpCons fk fv f) := by
 obtain ⟨tk, pk, rk⟩ := hk.ex
 obtain ⟨tv, pv, rv⟩ := hv.ex
 obtain ⟨trs, pp, rr⟩ := hr.ex
 refine ⟨(tk, tv) :: trs, pps_cons pk pv pp, fun as σ H ρ s Q rl en h => ?_⟩
 refine rk as σ H ρ s _ rl en (Dn.bind h fun d1 s1 as1 H1 x st1 rl1 r1 h1 => ?_)
 refine rv as1 σ H1 ρ s1 _ rl1 (en.mono st1) (Dn.bind h1 fun d2 s2 as2 H2 y st2 rl2 r2 h2 => ?_)
 refine rr as2 σ H2 ρ s2 _ rl2 ((en.mono st1).mono st2) (Dn.bind h2 fun ps s3 as3 H3 qs st3 rl3 r3 h3 => ?_)
 exact Dn.now (Q := Q) h3 rl3 (.cons ((r1.mono st2).mono st3) (r2.mono st3) r3)
noncomputable def putAll (n : Nat) : List (D × D) -> S -> R D
 | [], s => .ok .non s
 | (k, v) :: r, s => (gDset (.ref n) k v s).bind fun _ s1 => putAll n r s1
noncomputable def fDctP (f : FP) : FE := fun ρ s => (f ρ (s ++ [.dct []])).bind fun ps s1 => (putAll s.length ps s1).bind fun _ s2 => .ok (.ref s.length) s2
theorem store_ok (hu : X.A.units + 70 < cLine) {E : Value -> Shared -> Prop} {pins : List (Addr × Obj)} {σ : St} {p : Addr} {n : Nat} : ∀ {ps : List (V × V)} {ds : List (D × D)} {us : List (Value × Value)} {sh : Shared} {H : Hp} {as : As} {s : S} {Q : VK}, RPs X.K as H ps ds -> VV ps us -> Inv X pins σ H sh -> Rel X.K as H s -> RD X.K as H (.ref p) (.ref n) -> Dn X.K (rD X.K) as H ((putAll n ds s).bind fun _ s2 => .ok (.ref n) s2) Q ->
  wpAny (model X.prog X.w) X.A (storeAll p us) (fun _ s' => ∃ H', Inv X pins σ H' s' /\ Q (.ref p) H') E sh
 | _, _, _, sh, H, as, s, Q, .nil, v, I, rl, r, h => by
  cases v
  show wpAny _ _ (forIn [] _ _) _ _ _
  rw [List.forIn_nil]
  exact wpAny_pure ⟨H, I, Dn.now (Q := Q) (show Dn X.K (rD X.K) as H (.ok (.ref n) s) Q from h) rl r⟩
 | _, _, _, sh, H, as, s, Q, .cons (ps := ps) (ds := ds) (a := a) (b := b) ra rb t, v, I, rl, r, h => by
  cases v with
  | @cons _ q _ us hq vr =>
   obtain ⟨q1, q2⟩ := q
   show wpAny _ _ (forIn ((q1, q2) :: us) _ _) _ _ _
   rw [List.forIn_cons]
   have h' : Dn X.K (rD X.K) as H ((gDset (.ref n) a b s).bind fun _ s1 => (putAll n ds s1).bind fun _ s2 => .ok (.ref n) s2) Q := by
    have e : ((putAll n ((a, b) :: ds) s).bind fun _ s2 => R.ok (D.ref n) s2) = (gDset (.ref n) a b s).bind fun _ s1 => (putAll n ds s1).bind fun _ s2 => .ok (.ref n) s2 := by
     show ((gDset (.ref n) a b s).bind fun _ s1 => putAll n ds s1).bind _ = _
     cases gDset (.ref n) a b s <;> rfl
    rw [← e]; exact h
   refine wpAny_bind (wpAny_bind (wpAny_mono (dset_ok (E := E) (Q := fun _ H' => ∃ as' s', Step as H as' H' /\ Rel X.K as' H' s' /\ Dn X.K (rD X.K) as' H' ((putAll n ds s').bind fun _ s2 => .ok (.ref n) s2) Q) hu I rl r ra rb hq.1 hq.2 (Dn.bind h' fun d s1 as1 H1 vv st1 rl1 r1 h1 => ⟨as1, s1, st1, rl1, h1⟩)) (fun _ s' hx => ?_) fun _ _ e => e))
   obtain ⟨H1, I1, as1, s1, st1, rl1, h1⟩ := hx
   exact wpAny_pure (store_ok hu (t.mono st1) vr I1 rl1 (r.mono st1) h1)
theorem re_dctP {pos : Pos} {keys : List (Option Expr)} {values : List Expr} {f : FP} (hu : X.A.units + 70 < cLine) (h : RP X pos keys values f) (hall : keys.all (·.isSome) = true := by rfl) (hl : keys.length = values.length := by rfl) (h0 : keys ≠ [] := by (intro z; cases z)) (h15 : keys.length <= 15 := by decide) : RE X (.Dict keys values pos) (fDctP f) := by
 obtain ⟨trs, pp, rr⟩ := h.ex
 refine ⟨fun σ H Q => ∀ p, H p = none -> tPairs trs σ (upd H p (.dK [])) fun ps H2 => ∃ as s ds n, Rel X.K as H2 s /\ RPs X.K as H2 ps ds /\ RD X.K as H2 (.ref p) (.ref n) /\ Dn X.K (rD X.K) as H2 ((putAll n ds s).bind fun _ s2 => .ok (.ref n) s2) Q, ⟨fun pins sh σ H Q I h => ?_⟩, fun as σ H ρ s Q rl en h => ?_⟩
 ·have I1 := I.laid (a := sh.heap.objs.size) (o := .dK []) (h' := sh.heap.push { cls := .type "dict", data := .dict #[] }) (t' := sh.toks) (fun _ _ q => Heap.get?_push_of_some _ q) (Nat.le_refl _) (dk_empty sh.heap I.big)
  refine wpAny_Dict_any hall hl h0 h15 (thn (pp pins _ σ _ _ I1 (h _ (I.hok.fresh (Nat.le_refl _)))) fun us s1 ⟨ps, H1, I2, vv, as, s, ds, n, rl, rps, rd, q⟩ => ?_)
  exact wpAny_mono (store_ok hu rps vv I2 rl rd q) (fun _ s2 ⟨H2, I3, q2⟩ => ⟨.ref _, H2, I3, rfl, q2⟩) fun _ _ e => e
 ·intro p hp
  have nw : New H p (.dK []) (upd H p (.dK [])) := ⟨hp, rfl⟩
  have st := step_laid (as := as) nw
  have rl1 := rl.laid nw (u := .dct []) (.inl ⟨[], nw.at, .nil⟩)
  have rd : RD X.K (as.add p) (upd H p (.dK [])) (.ref p) (.ref s.length) := .ref (by simp [rl.len]) fun q e => by
   rw [← rl.len] at e
   simp at e
   exact e.symm
  refine rr (as.add p) σ _ ρ (s ++ [.dct []]) _ rl1 (en.mono st) (Dn.bind (Dn.step h st) fun ds s1 as1 H1 ps st1 rl2 r1 h1 => ⟨as1, s1, ds, s.length, rl2, r1, rd.mono st1, h1⟩)
end
end PF
namespace L2
open PySem PySem.Spec PyProof.Rows
abbrev TBd := Addr -> St -> Hp -> (St -> Hp -> Prop) -> Prop
def emitL (elt : Expr) (acc : Value) (env : Env) : Sem Unit := do let _ ← call (.builtin "list.append") [acc, ← eval elt env]
theorem turn_in (elt tg iter tg2 iter2 : Expr) (ifs ifs2 : List Expr) (scope : Scope) (pos : Pos) (it acc : Value) (env : Env) : compTurn (.ListComp elt [⟨tg, iter, ifs, 0⟩, ⟨tg2, iter2, ifs2, 0⟩] scope pos) 0 it acc env = (do
  standAt iter.pos
  match ← pyNext it with
  | none => pure (.done .next)
  | some v =>
   letOwnedTupleGo tg it v
   assign tg env v
   let ok ← ifsRun env ifs
   if ok = true then
    let x ← eval iter2 env
    standAt iter2.pos
    let x ← foldedSetIterable iter2 env x
    let _ ← runOwn (.compStart (.ListComp elt [⟨tg, iter, ifs, 0⟩, ⟨tg2, iter2, ifs2, 0⟩] scope pos) 1 (← holding [x] (pyIter x)) acc env) env
   again (.compLoop (.ListComp elt [⟨tg, iter, ifs, 0⟩, ⟨tg2, iter2, ifs2, 0⟩] scope pos) 0 it acc env)) := rfl
theorem turn_out (elt tg iter tg2 iter2 : Expr) (ifs ifs2 : List Expr) (scope : Scope) (pos : Pos) (it acc : Value) (env : Env) : compTurn (.ListComp elt [⟨tg, iter, ifs, 0⟩, ⟨tg2, iter2, ifs2, 0⟩] scope pos) 1 it acc env = (do
  standAt iter2.pos
  match ← pyNext it with
  | none => pure (.done .next)
  | some v =>
   letOwnedTupleGo tg2 it v
   assign tg2 env v
   let ok ← ifsRun env ifs2
   if ok = true then emitL elt acc env
   again (.compLoop (.ListComp elt [⟨tg, iter, ifs, 0⟩, ⟨tg2, iter2, ifs2, 0⟩] scope pos) 1 it acc env)) := rfl
end L2
namespace L2
open PySem PySem.Spec PyProof.Rows
section
variable {P : Program} {w : World} {A : Around} {R : Result -> Shared -> Prop} {s : Shared} {elt tg iter tg2 iter2 : Expr} {ifs ifs2 : List Expr} {sc : Scope} {pos : Pos} {it acc : Value} {env : Env}
abbrev LC2 (elt tg iter tg2 iter2 : Expr) (ifs ifs2 : List Expr) (sc : Scope) (pos : Pos) : Expr := .ListComp elt [⟨tg, iter, ifs, 0⟩, ⟨tg2, iter2, ifs2, 0⟩] sc pos
def LcT (P : Program) (w : World) (A : Around) (it : Value) (tg : Expr) (l : List Expr) (env : Env) (body : (Shared -> Prop) -> Shared -> Prop) (fin again : Shared -> Prop) (s : Shared) : Prop :=
 Wn P w A (pyNext it) (fun r a => match r with
  | none => fin a
  | some v => Wn P w A (letOwnedTupleGo tg it v) (fun _ b => Wn P w A (assign tg env v) (fun _ c => Wn P w A (ifsRun env l) (fun ok d => if ok = true then body again d else again d) c) b) a) s
def EmitW (P : Program) (w : World) (A : Around) (elt : Expr) (acc : Value) (env : Env) (again : Shared -> Prop) (s : Shared) : Prop := Wn P w A (eval elt env) (fun x e => Wn P w A (call (.builtin "list.append") [acc, x]) (fun _ g => again g) e) s
def NextW (P : Program) (w : World) (A : Around) (e iter : Expr) (acc : Value) (env : Env) (again : Shared -> Prop) (s : Shared) : Prop :=
 Wn P w A (eval iter env) (fun x a => Wn P w A (pyIter x) (fun it2 c => codeAny (model P w) A (.compStart e 1 it2 acc env) (fun r z => match r with | .ok _ => again z | .error _ => False) c) a) s
theorem lc_in (J : Nat -> Shared -> Prop) (hs : ∀ x, foldedSetIterable iter2 env x = pure x)
  (turn : ∀ n s, J n s -> LcT P w A it tg ifs env (NextW P w A (LC2 elt tg iter tg2 iter2 ifs ifs2 sc pos) iter2 acc env) (R (.ok .next)) (fun z => ∃ m, m < n /\ J m z) s) (n : Nat) (h : J n s) : codeAny (model P w) A (.compLoop (LC2 elt tg iter tg2 iter2 ifs ifs2 sc pos) 0 it acc env) R s := by
 refine codeAny_loop rfl J (fun k z hz => ?_) n h
 have one := turn k z hz
 show wpAny _ A (Sem.onRaise (compTurn (LC2 elt tg iter tg2 iter2 ifs ifs2 sc pos) 0 it acc env) fun x => do noteFrame x env; theTreesLotGoes x) _ _ z
 refine wpAny_noted ?_
 rw [turn_in]
 refine wpAny_bind (wpAny_standAt (wpAny_bind (wpAny_mono one (fun r a ha => ?_) fun _ _ f => f.elim)))
 cases r with
 | none => exact wpAny_pure ha
 | some v =>
  refine wpAny_bind (wpAny_mono ha (fun _ b hb => wpAny_bind (wpAny_mono hb (fun _ c hc => wpAny_bind (wpAny_mono hc (fun ok d hd => ?_) fun _ _ f => f.elim)) fun _ _ f => f.elim)) fun _ _ f => f.elim)
  cases ok with
  | false =>
   have q : ∃ m, m < k /\ J m d := hd
   exact wpAny_pure ⟨rfl, q⟩
  | true =>
   have q : NextW P w A (LC2 elt tg iter tg2 iter2 ifs ifs2 sc pos) iter2 acc env (fun z => ∃ m, m < k /\ J m z) d := hd
   refine wpAny_bind (wpAny_mono q (fun x e he => wpAny_bind (wpAny_standAt (wpAny_bind ?_))) fun _ _ f => f.elim)
   rw [hs x]
   refine wpAny_pure (wpAny_bind (wpAny_holding (wpAny_mono he (fun it2 e2 he2 => wpAny_bind (wpAny_runOwn (codeAny_mono he2 fun r z hz => ?_))) fun _ _ f => f.elim)))
   cases r with
   | ok f => exact wpAny_pure ⟨rfl, hz⟩
   | error e => exact hz.elim
theorem lc_out (J : Nat -> Shared -> Prop)
  (turn : ∀ n s, J n s -> LcT P w A it tg2 ifs2 env (EmitW P w A elt acc env) (R (.ok .next)) (fun z => ∃ m, m < n /\ J m z) s) (n : Nat) (h : J n s) : codeAny (model P w) A (.compLoop (LC2 elt tg iter tg2 iter2 ifs ifs2 sc pos) 1 it acc env) R s := by
 refine codeAny_loop rfl J (fun k z hz => ?_) n h
 have one := turn k z hz
 show wpAny _ A (Sem.onRaise (compTurn (LC2 elt tg iter tg2 iter2 ifs ifs2 sc pos) 1 it acc env) fun x => do noteFrame x env; theTreesLotGoes x) _ _ z
 refine wpAny_noted ?_
 rw [turn_out]
 refine wpAny_bind (wpAny_standAt (wpAny_bind (wpAny_mono one (fun r a ha => ?_) fun _ _ f => f.elim)))
 cases r with
 | none => exact wpAny_pure ha
 | some v =>
  refine wpAny_bind (wpAny_mono ha (fun _ b hb => wpAny_bind (wpAny_mono hb (fun _ c hc => wpAny_bind (wpAny_mono hc (fun ok d hd => ?_) fun _ _ f => f.elim)) fun _ _ f => f.elim)) fun _ _ f => f.elim)
  cases ok with
  | false =>
   have q : ∃ m, m < k /\ J m d := hd
   exact wpAny_pure ⟨rfl, q⟩
  | true =>
   have q : EmitW P w A elt acc env (fun z => ∃ m, m < k /\ J m z) d := hd
   exact wpAny_bind (wpAny_bind (wpAny_mono q (fun x e he => wpAny_bind (wpAny_mono he (fun _ g hg => wpAny_pure (wpAny_pure ⟨rfl, hg⟩)) fun _ _ f => f.elim)) fun _ _ f => f.elim))
theorem start1 (h0 : codeAny (model P w) A (.compLoop (LC2 elt tg iter tg2 iter2 ifs ifs2 sc pos) 1 it acc env) R s)
  (h : wpAny (model P w) A (pyIter it) (fun it' s' => codeAny (model P w) A (.compLoop (LC2 elt tg iter tg2 iter2 ifs ifs2 sc pos) 1 it' acc env) R s') (fun _ _ => False) s) : codeAny (model P w) A (.compStart (LC2 elt tg iter tg2 iter2 ifs ifs2 sc pos) 1 it acc env) R s := by
 refine codeAny_of_tree ?_
 show wpAny _ _ ((compStart (LC2 elt tg iter tg2 iter2 ifs ifs2 sc pos) 1 it acc env).onRaise (fun x => do noteFrame x env; standAt theWindowsPlace)) _ _ s
 refine wpAny_notedAt ?_
 unfold compStart
 show wpAny _ _ (ask >>= _) _ _ s --
 (refine wpAny_bind (wpAny_askSetting (wpAny_ite ?_)))
 split
 ·exact wpAny_pure ⟨rfl, h0⟩
 ·exact wpAny_bind (wpAny_rule (wpAny_bind (wpAny_standAt (wpAny_bind (wpAny_mono h (fun it' s' h' => wpAny_pure ⟨rfl, h'⟩) fun _ _ x => x.elim)))))
end
end L2
namespace L2
open PySem PySem.Spec PyProof.Rows
theorem NextW.mono {P : Program} {w : World} {A : Around} {e iter : Expr} {acc : Value} {env : Env} {a b : Shared -> Prop} {s : Shared} (h : NextW P w A e iter acc env a s) (k : ∀ z, a z -> b z) : NextW P w A e iter acc env b s := by
 refine wpAny_mono h (fun x s1 h1 => wpAny_mono h1 (fun it2 s2 h2 => codeAny_mono h2 fun r z hz => ?_) fun _ _ f => f) fun _ _ f => f
 cases r with
 | ok f => exact k z hz
 | error _ => exact hz
def PNx (X : Cx) (e iter : Expr) (tb : TBd) : Prop := ∀ (D : Addr) (pins : List (Addr × Obj)) (s : Shared) (σ : St) (H : Hp) (Q : St -> Hp -> Prop), Inv X pins σ H s -> tb D σ H Q -> NextW X.prog X.w X.A e iter (.ref D) X.env (fun s' => ∃ σ' H', Inv X pins σ' H' s' /\ Q σ' H') s
def tLc2B (g : TG) (tt : TT) (tb : TBd) (k : Nat) (cap : St) (J : It) (H1 : Hp) (Q : VK) : Prop :=
 ∀ D, H1 D = none -> ∃ W : Nat -> Nat -> Hp -> Prop, (∃ m, W 0 m (upd H1 D (.lst []))) /\ ∀ i m H, W i m H ->
  (J.stop i H /\ Q (.ref D) H) \/ (J.go i H /\ ∀ x H', J.yld i H x H' -> ∀ vs : St, vs.length = k -> g x (vs ++ cap) H' fun σ2 H2 => (∃ vs' : St, vs'.length = k /\ σ2 = vs' ++ cap) /\ tt σ2 H2 fun b H3 =>
   if b = true then tb D σ2 H3 fun σ4 H4 => (∃ vs' : St, vs'.length = k /\ σ4 = vs' ++ cap) /\ ∃ m', m' < m /\ W (i + 1) m' H4 else ∃ m', m' < m /\ W (i + 1) m' H3)
def tLc2 (js : List Nat) (k : Nat) (wi : TI) (g : TG) (tt : TT) (tb : TBd) : TE := fun σ H Q => wi σ H fun J H1 => tLc2B g tt tb k (capV σ js) J H1 Q
def tNx (wi : TI) (g : TG) (tt : TT) (te : TE) : TBd := fun D σ H Q => wi σ H fun J H1 => ∃ W : Nat -> Nat -> St -> Hp -> Prop, (∃ m, W 0 m σ H1) /\ ∀ i m σ H, W i m σ H ->
  (J.stop i H /\ Q σ H) \/ (J.go i H /\ ∀ x H', J.yld i H x H' -> g x σ H' fun σ2 H2 => tt σ2 H2 fun b H3 =>
   if b = true then te σ2 H3 fun v H4 => ∃ ys, H4 D = some (.lst ys) /\ ys.length < sizeLine /\ ∃ m', m' < m /\ W (i + 1) m' σ2 (upd H4 D (.lst (ys ++ [v]))) else ∃ m', m' < m /\ W (i + 1) m' σ2 H3)
section
variable {X : Cx} {own caps : List Str} {js : List Nat} {scope : Scope} {tg iter tg2 iter2 elt : Expr} {ifs ifs2 : List Expr} {wi : TI} {g : TG} {tt : TT} {te : TE} {tb : TBd} {pos : Pos}
theorem pnx (hcalm : X.calm = true) (hx : X.xe = fun _ _ => False) (hi : PI X tg2 iter2 wi) (hg : PG X tg2 g) (ht : PIfs X ifs2 tt) (he : PE X elt te) : PNx X (LC2 elt tg iter tg2 iter2 ifs ifs2 scope pos) iter2 (tNx wi g tt te) := by
 intro D pins s σ H Q I h
 have h0 := hi pins s σ H _ I h
 rw [hx] at h0
 refine thn h0 fun v s1 h1 => thn h1 fun itv s2 h2 => ?_
 obtain ⟨it, fp, tn, J, H2, e, I2, T, st2, f2, W, ⟨m0, w0⟩, turn⟩ := h2
 subst e
 have stat : ∀ {H' : Hp}, (∀ b ∈ fp, H' b = none) -> ∀ b ∈ fp, FpOk X pins H' b := fun hn b hb => ⟨hn b hb, (f2 b hb).2⟩
 have loop : codeAny (model X.prog X.w) X.A (.compLoop (LC2 elt tg iter tg2 iter2 ifs ifs2 scope pos) 1 (.ref it) (.ref D) X.env) (fun r z => match r with | .ok _ => ∃ σ' H', Inv X pins σ' H' z /\ Q σ' H' | .error _ => False) s2 := by
  refine lc_out (fun n s' => ∃ i σ' H', Inv X pins σ' H' s' /\ tn i s'.heap /\ (∀ b ∈ fp, H' b = none) /\ W i n σ' H') ?_ m0 ⟨0, σ, H2, I2, st2, fun b hb => (f2 b hb).1, w0⟩
  rintro n s3 ⟨i, σ3, H3, I3, st3, fr3, w3⟩
  rcases turn i n σ3 H3 w3 with ⟨stop, qn⟩ | ⟨go, step⟩
  ·refine thn (T.done X rfl rfl rfl hcalm i pins s3 σ3 H3 (fun _ _ => False) I3 (stat fr3) st3 stop) fun r s4 ⟨hr, I4⟩ => ?_
   subst hr
   exact ⟨σ3, H3, I4, qn⟩
  ·refine thn (T.item X rfl rfl rfl hcalm i pins s3 σ3 H3 (fun _ _ => False) I3 (stat fr3) st3 go) fun r s4 ⟨u, hr, h4⟩ => ?_
   subst hr
   refine thn h4 fun _ s5 ⟨x, H5, I5, r5, y5, st5, fr5⟩ => ?_
   have I5' := I5.pinned (stat fr5) (T.obj _ _ st5)
   have hg5 := hg _ s5 σ3 H5 x u _ I5' r5 (step x H5 y5)
   rw [hx] at hg5
   refine thn hg5 fun _ s6 ⟨σ6, H6, I6, q6⟩ => ?_
   have ht6 := ht _ s6 σ6 H6 _ I6 q6
   rw [hx] at ht6
   refine thn ht6 fun b s7 ⟨H7, I7, q7⟩ => ?_
   have again : ∀ {H8 : Hp} {s8 : Shared}, Inv X (pins ++ pinsAt fp s5.heap) σ6 H8 s8 -> (∃ m', m' < n /\ W (i + 1) m' σ6 H8) -> ∃ m, m < n /\ ∃ i σ' H', Inv X pins σ' H' s8 /\ tn i s8.heap /\ (∀ b ∈ fp, H' b = none) /\ W i m σ' H' := fun {H8 s8} I8 w8 => by
    obtain ⟨m', hm, w8⟩ := w8
    refine ⟨m', hm, i + 1, σ6, H8, I8.unpinned, T.keep _ _ _ st5 fun b hb o e => (I8.pin (b, o) (List.mem_append_right _ (List.mem_append_right _ (mem_pinsAt hb e)))).1, fun b hb => ?_, w8⟩
    obtain ⟨o, e, d⟩ := T.obj _ _ st5 b hb
    exact (I8.pin (b, o) (List.mem_append_right _ (List.mem_append_right _ (mem_pinsAt hb e)))).2.1
   cases b with
   | false => exact again I7 q7
   | true =>
    have he7 := he _ s7 _ H7 _ I7 q7
    rw [hx] at he7
    refine thn he7 fun y s8 ⟨v, H8, I8, r8, ys, hD8, hz8, q8⟩ => ?_
    have ha := mt_append (X := X) _ s8 _ H8 (.ref D) [v] (.ref D) [y] (fun z H9 => H9 = upd H8 D (.lst (ys ++ [v]))) I8 rfl (.cons r8 .nil) ⟨D, ys, v, rfl, rfl, hD8, hz8, rfl⟩
    rw [hx] at ha
    refine thn ha fun _ s9 ⟨z, H9, I9, _, e9⟩ => ?_
    subst e9
    exact again I9 q8
 exact start1 loop (T.self _ 0 _ _ _ st2 loop)
theorem lc2_run {pins : List (Addr × Obj)} {σ : St} {H2 : Hp} {s2 : Shared} {it : Addr} {fp : List Addr} {tn : Nat -> Heap -> Prop} {J : It} {Q : VK} {post : Value -> Addr -> Result -> Shared -> Prop} {E : Value -> Shared -> Prop}
  (hcalm : X.calm = true) (hkind : scope.kind = .function) (hcell : (scope.names.any fun p => p.2 == .cell) = false) (hk : (scope.names.all fun p => !(p.2 == .free) || (X.env.kindOf p.1 == some .cell || X.env.kindOf p.1 == some .free)) = true)
  (hcap : Caps X scope caps js) (hg : ∀ C fp s H, PG (cxLc X own caps scope C fp s H) tg g) (hi : ∀ C fp s H, PIfs (cxLc X own caps scope C fp s H) ifs tt)
  (hb : ∀ C fp s H, PNx (cxLc X own caps scope C fp s H) (LC2 elt tg iter tg2 iter2 ifs ifs2 scope pos) iter2 tb) (hs2 : ∀ C fp s H x, foldedSetIterable iter2 (cxLc X own caps scope C fp s H).env x = pure x)
  (I2 : Inv X pins σ H2 s2) (T : Turn X.prog X.w X.K tg J fp it tn) (st2 : tn 0 s2.heap) (f2 : ∀ b ∈ fp, FpOk X pins H2 b) (hw : tLc2B g tt tb own.length (capV σ js) J H2 Q)
  (hpost : ∀ D C s' m H', s'.heap.Ns C m -> s2.heap.objs.size <= C -> FpOk X pins H' C -> Inv X pins σ H' s' -> Q (.ref D) H' -> post (.ref D) C (.ok .next) s') :
  wpAny (model X.prog X.w) X.A (newList []) (fun acc s₃ => wpAny (model X.prog X.w) X.A (newFunctionEnv scope X.env.globals (clOf X.env scope.names []) [] X.env.qual none .none (some X.env)) (fun cenv s₄ =>
   codeAny (model X.prog X.w) X.A (.compStart (LC2 elt tg iter tg2 iter2 ifs ifs2 scope pos) 0 (.ref it) acc { cenv with scope := relabel scope X.env }) (post acc cenv.locals) s₄) E s₃) E s2 := by
 have hcell' : ∀ y ∈ scope.names, y.2 ≠ .cell := fun y hy e => by
  have := (List.any_eq_false.mp hcell) y hy
  simp [e] at this
 have hfr : ∀ n, (n, NameKind.free) ∈ scope.names -> X.env.kindOf n = some .cell \/ X.env.kindOf n = some .free := fun n hn => by
  have := (List.all_eq_true.mp hk) _ hn
  simpa using this
 refine wpAny_newObj_type (wpAny_newFunctionEnv hcell' (by intro y hy; simp at hy) (fun h₁ hns₁ hsb₁ => ?_) hkind)
 dsimp only at hns₁ hsb₁ ⊢
 generalize hHp : s2.heap.push { cls := .type "list", dict := none, data := .seq ([] : List Value).toArray } = G2 at hns₁ hsb₁ ⊢
 have hC : G2.objs.size = s2.heap.objs.size + 1 := by rw [← hHp, Heap.size_push]
 obtain ⟨D, hDe⟩ : ∃ D : Nat, s2.heap.objs.size = D := ⟨_, rfl⟩
 obtain ⟨C, hCe⟩ : ∃ C : Nat, G2.objs.size = C := ⟨_, rfl⟩
 rw [hCe] at hns₁ hsb₁
 rw [hDe, hCe] at hC
 show codeAny _ _ (.compStart _ 0 (.ref it) (.ref s2.heap.objs.size) (compEnvC scope (clOf X.env scope.names []) G2.objs.size X.env)) (post (.ref s2.heap.objs.size) G2.objs.size) _
 rw [hDe, hCe]
 have hDC : D ≠ C := by omega
 have hDCl : D < C := by omega
 have old : ∀ b o, s2.heap.get? b = some o -> h₁.get? b = some o := fun b o e => by
  have hlt : b < D := hDe ▸ Heap.lt_size e
  exact hsb₁.extBut b o (Nat.ne_of_lt (Nat.lt_trans hlt hDCl)) (Heap.get?_push_of_some _ (hHp ▸ Heap.get?_push_of_some _ e))
 have hD2 : H2 D = none := I2.hok.fresh (Nat.le_of_eq hDe)
 have hC2 : H2 C = none := I2.hok.fresh (by rw [hDe]; omega)
 have accD : h₁.get? D = some { cls := .type "list", data := .seq ([] : List Value).toArray } := hsb₁.extBut _ _ hDC (Heap.get?_push_of_some _ (hHp ▸ hDe ▸ Heap.get?_push_size _ rfl))
 obtain ⟨W, ⟨m0, w0⟩, turn⟩ := hw D hD2
 -- the block's own state
 have fpn : ∀ b ∈ fp, H2 b = none := fun b hb => (f2 b hb).1
 have fplt : ∀ b ∈ fp, b < D := fun b hb => by obtain ⟨o, e, _⟩ := T.obj _ _ st2 b hb; exact hDe ▸ Heap.lt_size e
 have clsub : ∀ n c, (n, c) ∈ clOf X.env scope.names [] -> X.env.cells.lookup n = some c := clOf_sub (by intro _ _ z; cases z)
 have cllook : ∀ n c, (clOf X.env scope.names []).lookup n = some c -> X.env.cells.lookup n = some c := fun n c e => clsub n c (PySem.mem_of_lookup e)
 have clhas : ∀ n, (n, NameKind.free) ∈ scope.names -> ∃ c, (clOf X.env scope.names []).lookup n = some c /\ X.env.cells.lookup n = some c := fun n hn => by
  obtain ⟨c, e⟩ := I2.ok.has n (hfr n hn)
  have m := clOf_has (cs := []) hn e
  cases q : (clOf X.env scope.names []).lookup n with
  | none =>
   have := List.lookup_eq_none_iff.mp q _ m
   simp at this
  | some c' => exact ⟨c', rfl, cllook n c' q⟩
 have clt : ∀ x c, (clOf X.env scope.names []).lookup x = some c -> c < D := fun x c e => by
  obtain ⟨v, z⟩ := I2.cell x c (cllook x c e)
  exact hDe ▸ z.lt
 have ok' : (cxLc X own caps scope C fp s2 H2).Ok := by
  refine ⟨I2.ok.mod, hkind, I2.ok.glob, I2.ok.blt, ?_, fun x y c e1 e2 => I2.ok.inj x y c (cllook x c e1) (cllook y c e2), fun x hx => ?_, fun x c z => (by cases z), I2.ok.hd, I2.ok.frames, .inl rfl, fun b hb => ⟨?_, fun x c e => ?_⟩, I2.bs, Nat.le_trans I2.ok.bsz I2.sz, fun b o e hb => ?_, fun b hb hs => ?_, I2.stack, I2.stkFree⟩
  ·show s2.heap.objs.size <= C
   rw [hDe]; omega
  ·have hx' : (relabel scope X.env).names.lookup x = some .cell \/ (relabel scope X.env).names.lookup x = some .free := hx
   obtain ⟨c, e, _⟩ := clhas x (relabel_free hcell' hx')
   exact ⟨c, e⟩
  ·exact Nat.ne_of_lt (Nat.lt_trans (fplt b hb) hDCl)
  ·exact (f2 b hb).2.2.2.2.1 x c (cllook x c e)
  ·rcases (f2 b hb).2.2.2.1 with z | z
   ·exact I2.ok.noex b o e z
   ·exact absurd (Nat.lt_of_lt_of_le (Heap.lt_size (I2.ok.bs b o e).1) z) (Nat.lt_irrefl _)
  ·rcases List.mem_cons.mp (I2.stkSub b hs) with z | z
   ·exact (f2 b hb).2.1 z
   ·exact (f2 b hb).2.2.1 z
 have I4 : Inv (cxLc X own caps scope C fp s2 H2) [] (List.replicate own.length none ++ capV σ js) (upd H2 D (.lst [])) { s2 with heap := h₁, toks := s2.toks + ([] : List (Str × Value)).length } := by
  refine ⟨ok', rfl, I2.bare, Un.laid old (Nat.le_of_eq hDe) hD2, ⟨_, hns₁, fun i x v e1 e2 e3 => ?_⟩, fun x c e => ?_, ?_, fun x c e => ?_, fun p hp => absurd (show p ∈ ([] : List (Addr × Obj)) from hp) (by simp), ?_, ?_⟩
  ·have e1 : (own ++ caps)[i]? = some x := e1
   by_cases hio : i < own.length
   ·rw [List.getElem?_append_left (by simpa using hio), List.getElem?_replicate] at e2
    split at e2 <;> cases e2
   ·have hle : own.length <= i := Nat.le_of_not_lt hio
    rw [List.getElem?_append_right hle] at e1
    rw [List.getElem?_append_right (by simpa using hle)] at e2
    obtain ⟨j, c, e⟩ := Caps.at (σ := σ) hcap e1 (by simpa using e2)
    obtain ⟨c1, c2, c3, c4⟩ := c
    obtain ⟨m, hn, hl⟩ := I2.loc
    obtain ⟨u, r, lk⟩ := hl j x v c1 e c2
    refine ⟨u, r, .inr ⟨?_, ?_⟩⟩
    ·have c4' : (relabel scope X.env).names.lookup x = some .cell \/ (relabel scope X.env).names.lookup x = some .free := by simpa using c4
     exact c4'
    ·have c4' : (relabel scope X.env).names.lookup x = some .cell \/ (relabel scope X.env).names.lookup x = some .free := by simpa using c4
     obtain ⟨c', q1, q2⟩ := clhas x (relabel_free hcell' c4')
     rcases lk with ⟨k1, _⟩ | ⟨_, c'', k2, k3⟩
     ·rw [k1] at c3; simp at c3
     ·rw [q2] at k2; cases k2
      obtain ⟨oc, hoc, hod⟩ := k3
      exact ⟨c', q1, oc, old _ _ hoc, hod⟩
  ·obtain ⟨v, oc, hoc, hod⟩ := I2.cell x c (cllook x c e)
   exact ⟨v, oc, old _ _ hoc, hod⟩
  ·show upd H2 D (.lst []) C = none
   rw [upd_ne (Ne.symm hDC)]; exact hC2
  ·rw [upd_ne (Nat.ne_of_lt (clt x c e))]; exact I2.freeC x c (cllook x c e)
  ·exact I2.hok.laid old (Nat.le_of_eq hDe) ⟨Nat.zero_le _, [], 0, .nil, accD⟩
  ·show (List.replicate own.length none ++ capV σ js).length = (own ++ caps).length
   rw [List.length_append, List.length_append, List.length_replicate, hcap.len]
 have stat : ∀ {H' : Hp}, (∀ b ∈ fp, H' b = none) -> ∀ b ∈ fp, FpOk (cxLc X own caps scope C fp s2 H2) [] H' b := fun hn b hb =>
  ⟨hn b hb, (ok'.exf b hb).1, ok'.exfs b hb, .inl hb, (ok'.exf b hb).2, fun p hp => absurd (show p ∈ ([] : List (Addr × Obj)) from hp) (by simp)⟩
 have loop : ∀ s₃ : Shared, s₃ = { s2 with heap := h₁, toks := s2.toks + ([] : List (Str × Value)).length } ->
   codeAny (model X.prog X.w) X.A (.compLoop (LC2 elt tg iter tg2 iter2 ifs ifs2 scope pos) 0 (.ref it) (.ref D) (compEnvC scope (clOf X.env scope.names []) C X.env)) (post (.ref D) C) s₃ := by
  rintro s₃ rfl
  refine lc_in (fun n s' => ∃ i vs H', vs.length = own.length /\ Inv (cxLc X own caps scope C fp s2 H2) [] (vs ++ capV σ js) H' s' /\ tn i s'.heap /\ (∀ b ∈ fp, H' b = none) /\ W i n H') (hs2 C fp s2 H2) ?_ m0
   ⟨0, List.replicate own.length none, upd H2 D (.lst []), by simp, I4, T.keep _ _ _ st2 fun b _ o e => old b o e, fun b hb => by rw [upd_ne (Nat.ne_of_lt (fplt b hb))]; exact fpn b hb, w0⟩
  rintro n s3 ⟨i, vs, H3, hvs, I3, st3, fr3, w3⟩
  rcases turn i n H3 w3 with ⟨stop, qn⟩ | ⟨go, step⟩
  ·refine thn (T.done (cxLc X own caps scope C fp s2 H2) rfl rfl rfl hcalm i [] s3 _ H3 (fun _ _ => False) I3 (stat fr3) st3 stop) fun r s5 ⟨hr, I5⟩ => ?_
   subst hr
   obtain ⟨m5, hn5, _⟩ := id I5.loc
   refine hpost D C s5 m5 H3 hn5 (by rw [hDe]; omega) (I2.fpOk (by rw [hDe]; omega) I5.free) ?_ qn
   exact I2.call' (ch := fp) I5.os I5.base I5.hok I5.bare fun b hb => ⟨(f2 b hb).2.2.2.1, (f2 b hb).2.1, (f2 b hb).2.2.2.2⟩
  ·refine thn (T.item (cxLc X own caps scope C fp s2 H2) rfl rfl rfl hcalm i [] s3 _ H3 (fun _ _ => False) I3 (stat fr3) st3 go) fun r s4 ⟨u, hr, h4⟩ => ?_
   subst hr
   refine thn h4 fun _ s5 ⟨x, H5, I5, r5, y5, st5, fr5⟩ => ?_
   have I5' := I5.pinned (stat fr5) (T.obj _ _ st5); refine thn (hg C fp s2 H2 _ s5 _ H5 x u _ I5' r5 (step x H5 y5 vs hvs)) fun _ s6 ⟨σ6, H6, I6, ⟨vs6, hvs6, e6⟩, q6⟩ => ?_
   subst e6
   refine thn (hi C fp s2 H2 _ s6 _ H6 _ I6 q6) fun b s7 ⟨H7, I7, q7⟩ => ?_
   have again : ∀ {H8 : Hp} {s8 : Shared} {vs8 : St}, vs8.length = own.length -> Inv (cxLc X own caps scope C fp s2 H2) ([] ++ pinsAt fp s5.heap) (vs8 ++ capV σ js) H8 s8 -> (∃ m', m' < n /\ W (i + 1) m' H8) ->
     ∃ m, m < n /\ ∃ i vs H', vs.length = own.length /\ Inv (cxLc X own caps scope C fp s2 H2) [] (vs ++ capV σ js) H' s8 /\ tn i s8.heap /\ (∀ b ∈ fp, H' b = none) /\ W i m H' := fun {H8 s8 vs8} hv8 I8 w8 => by
    obtain ⟨m', hm, w8⟩ := w8
    refine ⟨m', hm, i + 1, vs8, H8, hv8, I8.unpinned, T.keep _ _ _ st5 fun b hb o e => (I8.pin (b, o) (List.mem_append_right _ (List.mem_append_right _ (mem_pinsAt hb e)))).1, fun b hb => ?_, w8⟩
    obtain ⟨o, e, d⟩ := T.obj _ _ st5 b hb
    exact (I8.pin (b, o) (List.mem_append_right _ (List.mem_append_right _ (mem_pinsAt hb e)))).2.1
   cases b with
   | false => exact again hvs6 I7 q7
   | true =>
    refine NextW.mono (hb C fp s2 H2 D _ s7 _ H7 _ I7 q7) fun z hz => ?_
    obtain ⟨σ8, H8, I8, ⟨vs8, hv8, e8⟩, w8⟩ := hz
    subst e8
    exact again hv8 I8 w8
 refine codeAny_compStart_list (loop _ rfl) (T.self _ 0 _ _ _ (T.keep _ _ _ st2 fun b _ o e => old b o e) (loop _ rfl))
end
end L2
namespace L2
open PySem PySem.Spec PyProof.Rows
section
variable {X : Cx} {own caps : List Str} {js : List Nat} {scope : Scope} {tg iter tg2 iter2 elt : Expr} {ifs ifs2 : List Expr} {wi : TI} {g : TG} {tt : TT} {te : TE} {tb : TBd} {pos : Pos}
theorem ps_setLc2 {i : Nat} {y : Str} {py : Pos} {spos : Pos} (hsw : swapsWith (LC2 elt tg iter tg2 iter2 ifs ifs2 scope pos) (some (.Name y py)) spos.line X.env = pure true) (hN : X.N.Nodup) (hy : X.N[i]? = some y) (hyl : X.env.scope.names.lookup y = some .local)
  (hcalm : X.calm = true) (hkind : scope.kind = .function) (hnames : (scope.names.all fun p => !(p.2 == .local) || (scope.names.lookup p.1 == some .local)) = true) (hcell : (scope.names.any fun p => p.2 == .cell) = false)
  (hk : (scope.names.all fun p => !(p.2 == .free) || (X.env.kindOf p.1 == some .cell || X.env.kindOf p.1 == some .free)) = true)
  (hcap : Caps X scope caps js) (hi : PI X tg iter wi) (hg : ∀ C fp s H, PG (cxLc X own caps scope C fp s H) tg g) (ht : ∀ C fp s H, PIfs (cxLc X own caps scope C fp s H) ifs tt) (hb : ∀ C fp s H, PNx (cxLc X own caps scope C fp s H) (LC2 elt tg iter tg2 iter2 ifs ifs2 scope pos) iter2 tb) (hs2 : ∀ C fp s H x, foldedSetIterable iter2 (cxLc X own caps scope C fp s H).env x = pure x)
  (hs : ∀ x, foldedSetIterable iter X.env x = pure x := by intro _; rfl) : PS X (.Assign [.Name y py] (LC2 elt tg iter tg2 iter2 ifs ifs2 scope pos) spos) (fun D σ H => tLc2 js own.length wi g tt tb σ H fun v H' => D.nx (σ.set i (some v)) H') := by
 refine ⟨?_⟩
 intro pins s σ H D I h
 have hfr : ∀ n, (n, NameKind.free) ∈ scope.names -> X.env.kindOf n = some .cell \/ X.env.kindOf n = some .free := fun n hn => by
  have := (List.all_eq_true.mp hk) _ hn
  simpa using this
 have hn' : ∀ x ∈ scope.names, x.2 = .local -> scope.names.lookup x.1 = some .local := fun x hx e => by
  have := (List.all_eq_true.mp hnames) _ hx
  simpa [e] using this
 rw [exec_Assign_Name_used _ _ _ _ hsw]; refine wpAny_bind (wpAny_standAt (wpAny_bind ?_))
 show wpAny _ _ (do let _ ← comprehension (LC2 elt tg iter tg2 iter2 ifs ifs2 scope pos) scope X.env _ (newList []) false (eval iter X.env) (some (assign (.Name y py) X.env))) _ _ s
 refine wpAny_bind (wpAny_mono (wpAny_comprehension_free (use := some (assign (.Name y py) X.env)) (Q := fun _ s' => SP X pins D .next s') rfl hs (closureFor_cl fun n hn => I.ok.has n (hfr n hn)) hkind hn'
  (thn (hi pins s σ H _ I h) fun v s1 h1 => thn h1 fun itv s2 h2 => ?_)) (fun _ s' hq => wpAny_pure (wpAny_pure hq)) fun _ _ e => e)
 obtain ⟨it, fp, tn, J, H2, e, I2, T, st2, f2, hw⟩ := h2
 subst e
 refine lc2_run (iter := iter) (pos := pos) (post := fun acc C => compPost (model X.prog X.w) X.A X.xe (some (assign (.Name y py) X.env)) (fun _ s' => SP X pins D .next s') acc C) hcalm hkind hcell hk hcap hg ht hb hs2 I2 T st2 f2 hw ?_
 intro Da C s' m H' hn hCs f I' hq
 show wpAny _ _ (assign (.Name y py) X.env (.ref Da)) _ _ _
 refine wpAny_assign_Name (store_ok2 (v := .ref Da) (u := .ref Da) I' hN hy (.inl hyl) rfl (fun s6 I6 hs6 => ?_) (.inr hyl))
 obtain ⟨a, hsb, ha⟩ := hs6
 have haC : a ≠ C := by
  rcases ha with z | z
  ·rw [z]; exact Ne.symm f.2.1
  ·exact f.2.2.2.2.1 y a z
 exact ⟨m, hn.sameBut hsb (Ne.symm haC), fun h' hs' => ⟨σ.set i (some (.ref Da)), H', I6.turned (t' := s6.toks) (fun b o hb e => (hs'.2 b hb).trans e) f.1 f.2.1 f.2.2.2.1 f.2.2.2.2.1 f.2.2.2.2.2, hq⟩⟩
end
end L2
namespace PF
open PySem PySem.Spec
open L2
def tOfI (K : PySem.W.Frag) (f : FI) : TI := fun σ H R => ∃ as ρ s, Rel K as H s /\ Envs K as H ρ σ /\ Dn K (ItOk K) as H (f ρ s) R
theorem RI.pi {X : Cx} {tg iter : Expr} {f : FI} (h : RI X tg iter f) : PI X tg iter (tOfI X.K f) := by
 obtain ⟨t, p, r⟩ := h.ex
 exact fun pins s σ H R I ⟨as, ρ, s', a, b, c⟩ => p pins s σ H R I (r as σ H ρ s' R a b c)
def tgNone : Tg -> En -> Bool
 | .nm i, ρ => match ρ[i]? with
  | some none => true
  | _ => false
 | .t2 a b, ρ => tgNone a ρ && tgNone b ρ
 | .t3 a b c, ρ => tgNone a ρ && tgNone b ρ && tgNone c ρ
def Wk1 (ρ ρ' : En) : Prop := ρ'.length = ρ.length /\ ∀ (i : Nat) (d : D), ρ[i]? = some (some d) -> ρ'[i]? = some (some d)
theorem Wk1.refl (ρ : En) : Wk1 ρ ρ := ⟨rfl, fun _ _ e => e⟩
theorem set_wk : ∀ (g : Tg) {d : D} {ρ0 ρ ρ' : En}, Wk1 ρ0 ρ -> tgNone g ρ0 = true -> setD g d ρ = some ρ' -> Wk1 ρ0 ρ'
 | .nm i, d, ρ0, ρ, ρ', w, hn, e => by
  cases e
  refine ⟨by simp [w.1], fun j x ej => ?_⟩
  by_cases z : i = j
  ·subst z
   simp only [tgNone, ej] at hn
   cases hn
  ·rw [List.getElem?_set_ne z]; exact w.2 j x ej
 | .t2 a b, d, ρ0, ρ, ρ', w, hn, e => by
  simp only [tgNone, Bool.and_eq_true] at hn
  unfold setD at e
  split at e
  ·split at e
   ·rename_i q1
    exact set_wk b (set_wk a w hn.1 q1) hn.2 e
   ·cases e
  ·cases e
 | .t3 a b c, d, ρ0, ρ, ρ', w, hn, e => by
  simp only [tgNone, Bool.and_eq_true] at hn
  unfold setD at e
  split at e
  ·split at e
   ·rename_i q1
    split at e
    ·rename_i q2
     exact set_wk c (set_wk b (set_wk a w hn.1.1 q1) hn.1.2 q2) hn.2 e
    ·cases e
   ·cases e
  ·cases e
theorem Envs.mono0 {K : PySem.W.Frag} {as as' : As} {H H' : Hp} {ρ : En} {σ : St} (e : Envs K as H ρ σ) (st : Step0 as H as' H') : Envs K as' H' ρ σ := ⟨e.len, fun i d h => let ⟨v, a, b⟩ := e.get i d h; ⟨v, a, b.mono0 st⟩⟩
theorem Envs.weak {K : PySem.W.Frag} {as : As} {H : Hp} {ρ ρ' : En} {σ : St} (e : Envs K as H ρ' σ) (w : Wk1 ρ ρ') : Envs K as H ρ σ := ⟨w.1.symm.trans e.len, fun i d h => e.get i d (w.2 i d h)⟩
noncomputable def comp2F (g g2 : Tg) (ft : FT) (fi2 : FI) (ft2 : FT) (fe : FE) (ρ0 : En) (p : Wk) : List D -> S -> R (List D)
 | [], s => .ok [] s
 | d :: r, s => match setD g d ρ0 with
  | none => .bad
  | some ρ1 => (ft ρ1 s).bind fun b s2 => if b = true then (fi2 ρ1 s2).bind fun p2 s3 => if tgNone g2 ρ1 = true then chk p2 s3 ((compF g2 ft2 fe ρ1 p2 p2.1 s3).bind fun xs s4 => chk p s4 ((comp2F g g2 ft fi2 ft2 fe ρ0 p r s4).bind fun ys s5 => .ok (xs ++ ys) s5)) else .bad
   else chk p s2 (comp2F g g2 ft fi2 ft2 fe ρ0 p r s2)
def finL (m : Bool) (ds : List D) (s : S) : R D := if ds.length <= sizeLine then newL m ds s else .bad
noncomputable def fLc2 (m : Bool) (js : List Nat) (k : Nat) (fi : FI) (g : Tg) (ft : FT) (fi2 : FI) (g2 : Tg) (ft2 : FT) (fe : FE) : FE := fun ρ s => (fi ρ s).bind fun p s1 => chk p s1 ((comp2F g g2 ft fi2 ft2 fe (List.replicate k none ++ capD ρ js) p p.1 s1).bind (finL m))
theorem fra_cap {k : Nat} {σ σ' cap : St} (f : Fra k σ σ') (h : ∃ vs : St, vs.length = k /\ σ = vs ++ cap) : ∃ vs : St, vs.length = k /\ σ' = vs ++ cap := by
 obtain ⟨vs, hl, e⟩ := h
 exact f vs cap hl e
theorem lc2B {K : PySem.W.Frag} {as : As} {H : Hp} {s : S} {J : It} {p : Wk} {g g2 : Tg} {ft ft2 : FT} {fi2 : FI} {fe : FE} {ρ0 : En} {k : Nat} {cap : St} {m : Bool} {Q : VK} (hg : tgLt k g = true) (hg2 : tgLt k g2 = true) (rl : Rel K as H s) (ri : ItOk K as H J p) (so : SrcOk p s)
  (en : ∀ vs : St, vs.length = k -> Envs K as H ρ0 (vs ++ cap)) (h : Dn K (rD K) as H ((comp2F g g2 ft fi2 ft2 fe ρ0 p p.1 s).bind (finL m)) Q) : tLc2B (gOf K g) (tOfT K ft) (tNx (tOfI K fi2) (gOf K g2) (tOfT K ft2) (tOf K fe)) k cap J H Q := by
 intro Da hD
 have n0 : New H Da (.lst []) (upd H Da (.lst [])) := ⟨hD, rfl⟩
 have nh : Da ∉ as.hd := fun z => by obtain ⟨_, e⟩ := rl.hs Da z; rw [hD] at e; cases e
 have s0 := step_hide (as := as) n0
 refine ⟨fun i mm H' => ∃ as2 s2 ds ys, mm = p.1.length - i /\ i <= p.1.length /\ Step as H as2 H' /\ Da ∈ as2.hd /\ Rel K as2 H' s2 /\ SrcOk p s2 /\ H' Da = some (.lst ys) /\ RDs K as2 H' ys ds /\
   Dn K (rD K) as H ((comp2F g g2 ft fi2 ft2 fe ρ0 p (p.1.drop i) s2).bind fun xs s3 => finL m (ds ++ xs) s3) Q,
  ⟨_, as.hide Da, s, [], [], rfl, Nat.zero_le _, s0, List.mem_cons_self, rl.hide n0, so, n0.at, .nil, h⟩, ?_⟩
 rintro i mm H' ⟨as2, s2, ds, ys, hm, hi, st2, mD2, rl2, so2, hDi, rs, h2⟩
 have tn := ri as2 H' s2 st2.toStep0 rl2 so2 i
 by_cases hl : i < p.1.length
 ·obtain ⟨d, hd⟩ : ∃ d, p.1[i]? = some d := ⟨_, List.getElem?_eq_getElem hl⟩
  have hdr : p.1.drop i = d :: p.1.drop (i + 1) := by
   rw [List.drop_eq_getElem_cons hl]
   rw [List.getElem?_eq_getElem hl] at hd
   cases hd; rfl
  rw [hdr] at h2
  obtain ⟨go, yl⟩ := tn.2 d hd
  unfold comp2F at h2
  split at h2
  ·exact h2.elim
  ·rename_i ρ3 q3
   refine .inr ⟨go, fun x H3 hy vs hv => ?_⟩
   obtain ⟨st3, rl3, rx⟩ := yl x H3 hy
   refine ref_tg g ((en vs hv).mono (st2.trans st3)) rx q3 fun σ3 en3 fr => ?_
   have cap3 := fr k hg vs cap hv rfl
   refine ⟨cap3, as2, ρ3, s2, rl3, en3, ?_⟩
   have eD3 : H3 Da = some (.lst ys) := st3.hh Da mD2 _ hDi
   cases qt : ft ρ3 s2 with
   | bad => rw [qt] at h2; exact h2.elim
   | ok b s4 =>
    rw [qt] at h2
    intro b' as4 H4 st4 rl4 eb
    have eb' : b' = b := eb
    subst eb'
    have mD4 : Da ∈ as4.hd := st4.hk Da mD2
    have eD4 : H4 Da = some (.lst ys) := st4.hh Da mD2 _ eD3
    have st24 := (st2.trans st3).trans st4
    rw [R.bind_ok] at h2
    cases b' with
    | false =>
     rw [if_neg Bool.false_ne_true] at h2 ⊢
     by_cases c : SrcOk p s4
     ·rw [chk_pos c] at h2
      exact ⟨_, by omega, as4, s4, ds, ys, rfl, hl, st24, mD4, rl4, c, eD4, (rs.mono st3).mono st4, h2⟩
     ·have e : chk p s4 (comp2F g g2 ft fi2 ft2 fe ρ0 p (p.1.drop (i + 1)) s4) = .bad := if_neg c
      rw [e] at h2; exact h2.elim
    | true =>
     rw [if_pos rfl] at h2 ⊢
     refine ⟨as4, ρ3, s4, rl4, en3.mono st4, ?_⟩
     cases qi : fi2 ρ3 s4 with
     | bad => rw [qi] at h2; exact h2.elim
     | ok p2 s5 =>
      rw [qi] at h2
      rw [R.bind_ok] at h2
      by_cases hnn : tgNone g2 ρ3 = true
      ·rw [if_pos hnn] at h2
       intro J2 as5 H5 st5 rl5 ri5
       have mD5 : Da ∈ as5.hd := st5.hk Da mD4
       have eD5 : H5 Da = some (.lst ys) := st5.hh Da mD4 _ eD4
       have st25 := st24.trans st5
       have so5 : SrcOk p2 s5 := by
        by_cases c : SrcOk p2 s5
        ·exact c
        ·rw [show ∀ {α : Type} (k : R α), chk p2 s5 k = .bad from fun k => if_neg c] at h2
         exact h2.elim
       rw [chk_pos so5] at h2
       -- the rest behind the inner walk
       have rest : ∀ (xs : List D) (s6 : S), Dn K (rD K) as H ((chk p s6 ((comp2F g g2 ft fi2 ft2 fe ρ0 p (p.1.drop (i + 1)) s6).bind fun ys s5 => R.ok (xs ++ ys) s5)).bind fun zs s3 => finL m (ds ++ zs) s3) Q -> SrcOk p s6 /\ Dn K (rD K) as H ((comp2F g g2 ft fi2 ft2 fe ρ0 p (p.1.drop (i + 1)) s6).bind fun zs s3 => finL m ((ds ++ xs) ++ zs) s3) Q := fun xs s6 hx => by
        by_cases c : SrcOk p s6
        ·rw [chk_pos c] at hx
         refine ⟨c, ?_⟩
         cases qc : comp2F g g2 ft fi2 ft2 fe ρ0 p (p.1.drop (i + 1)) s6 with
         | bad => rw [qc] at hx; exact hx.elim
         | ok zs s7 =>
          rw [qc] at hx
          have hx : Dn K (rD K) as H (finL m (ds ++ (xs ++ zs)) s7) Q := hx
          rw [← List.append_assoc] at hx
          exact hx
        ·rw [show ∀ {α : Type} (k : R α), chk p s6 k = .bad from fun k => if_neg c] at hx
         exact hx.elim
       refine ⟨fun j mj σ6 H6 => ∃ as6 s6 es zs, mj = p2.1.length - j /\ j <= p2.1.length /\ Step as H as6 H6 /\ Step0 as5 H5 as6 H6 /\ Da ∈ as6.hd /\ Rel K as6 H6 s6 /\ SrcOk p2 s6 /\ H6 Da = some (.lst zs) /\ RDs K as6 H6 zs (ds ++ es) /\ Envs K as6 H6 ρ3 σ6 /\ (∃ vs' : St, vs'.length = k /\ σ6 = vs' ++ cap) /\
         Dn K (rD K) as H (((compF g2 ft2 fe ρ3 p2 (p2.1.drop j) s6).bind fun xs s7 => chk p s7 ((comp2F g g2 ft fi2 ft2 fe ρ0 p (p.1.drop (i + 1)) s7).bind fun ys s8 => R.ok ((es ++ xs) ++ ys) s8)).bind fun zs s3 => finL m (ds ++ zs) s3) Q,
        ⟨_, as5, s5, [], ys, rfl, Nat.zero_le _, st25, (Step.refl _ _).toStep0, mD5, rl5, so5, eD5, by rw [List.append_nil]; exact ((rs.mono st3).mono st4).mono st5, (en3.mono st4).mono st5, cap3, h2⟩, ?_⟩
       rintro j mj σ6 H6 ⟨as6, s6, es, zs, hmj, hj, st6, st56, mD6, rl6, so6, hD6, rs6, en6, cap6, h6⟩
       have tn2 := ri5 as6 H6 s6 st56 rl6 so6 j
       by_cases hl2 : j < p2.1.length
       ·obtain ⟨d2, hd2⟩ : ∃ d, p2.1[j]? = some d := ⟨_, List.getElem?_eq_getElem hl2⟩
        have hdr2 : p2.1.drop j = d2 :: p2.1.drop (j + 1) := by
         rw [List.drop_eq_getElem_cons hl2]
         rw [List.getElem?_eq_getElem hl2] at hd2
         cases hd2; rfl
        rw [hdr2] at h6
        obtain ⟨go2, yl2⟩ := tn2.2 d2 hd2
        unfold compF at h6
        split at h6
        ·exact h6.elim
        ·rename_i ρ7 q7
         refine .inr ⟨go2, fun x2 H7 hy2 => ?_⟩
         obtain ⟨st7, rl7, rx2⟩ := yl2 x2 H7 hy2
         refine ref_tg g2 (en6.mono st7) rx2 q7 fun σ7 en7 fr7 => ?_
         have cap7 := fra_cap (fr7 k hg2) cap6
         have wk7 : Wk1 ρ3 ρ7 := set_wk g2 (Wk1.refl _) hnn q7
         refine ⟨as6, ρ7, s6, rl7, en7, ?_⟩
         have eD7 : H7 Da = some (.lst zs) := st7.hh Da mD6 _ hD6
         cases qt2 : ft2 ρ7 s6 with
         | bad => rw [qt2] at h6; exact h6.elim
         | ok b2 s8 =>
          rw [qt2] at h6
          intro b2' as8 H8 st8 rl8 eb2
          have eb2' : b2' = b2 := eb2
          subst eb2'
          have mD8 : Da ∈ as8.hd := st8.hk Da mD6
          have eD8 : H8 Da = some (.lst zs) := st8.hh Da mD6 _ eD7
          have st68 := st7.trans st8
          rw [R.bind_ok] at h6
          cases b2' with
          | false =>
           rw [if_neg Bool.false_ne_true] at h6 ⊢
           have c : SrcOk p2 s8 := by
            by_cases c : SrcOk p2 s8
            ·exact c
            ·rw [show ∀ {α : Type} (k : R α), chk p2 s8 k = .bad from fun k => if_neg c] at h6
             exact h6.elim
           rw [chk_pos c] at h6
           exact ⟨_, by omega, as8, s8, es, zs, rfl, hl2, st6.trans st68, st56.trans st68.toStep0, mD8, rl8, c, eD8, (rs6.mono st7).mono st8, (en7.mono st8).weak wk7, cap7, h6⟩
          | true =>
           rw [if_pos rfl] at h6 ⊢
           refine ⟨as8, ρ7, s8, rl8, en7.mono st8, ?_⟩
           cases qe : fe ρ7 s8 with
           | bad => rw [qe] at h6; exact h6.elim
           | ok x9 s9 =>
            rw [qe] at h6
            intro v9 as9 H9 st9 rl9 r9
            rw [R.bind_ok] at h6
            have mD9 : Da ∈ as9.hd := st9.hk Da mD8
            have eD9 : H9 Da = some (.lst zs) := st9.hh Da mD8 _ eD8
            have st69 := st68.trans st9
            have c : SrcOk p2 s9 := by
             by_cases c : SrcOk p2 s9
             ·exact c
             ·rw [show ∀ {α : Type} (k : R α), chk p2 s9 k = .bad from fun k => if_neg c] at h6
              exact h6.elim
            rw [chk_pos c] at h6
            have cg : Chg H9 Da (.lst (zs ++ [v9])) (upd H9 Da (.lst (zs ++ [v9]))) := ⟨rfl⟩
            have s05 := step0_chg (.inr mD9) cg
            -- the inner rest
            have h9 : Dn K (rD K) as H (((compF g2 ft2 fe ρ3 p2 (p2.1.drop (j + 1)) s9).bind fun xs s7 => chk p s7 ((comp2F g g2 ft fi2 ft2 fe ρ0 p (p.1.drop (i + 1)) s7).bind fun ys s8 => R.ok (((es ++ [x9]) ++ xs) ++ ys) s8)).bind fun zs s3 => finL m (ds ++ zs) s3) Q := by
             cases qc : compF g2 ft2 fe ρ3 p2 (p2.1.drop (j + 1)) s9 with
             | bad => rw [qc] at h6; exact h6.elim
             | ok xs s7 =>
              rw [qc] at h6
              have e1 : (es ++ [x9]) ++ xs = es ++ (x9 :: xs) := by simp
              show Dn K (rD K) as H ((chk p s7 ((comp2F g g2 ft fi2 ft2 fe ρ0 p (p.1.drop (i + 1)) s7).bind fun ys s8 => R.ok (((es ++ [x9]) ++ xs) ++ ys) s8)).bind fun zs s3 => finL m (ds ++ zs) s3) Q
              rw [e1]
              exact h6
            have hlen : zs.length < sizeLine := by
             cases qc : compF g2 ft2 fe ρ3 p2 (p2.1.drop (j + 1)) s9 with
             | bad => rw [qc] at h9; exact h9.elim
             | ok xs s7 =>
              rw [qc] at h9
              obtain ⟨_, h10⟩ := rest _ s7 (show Dn K (rD K) as H ((chk p s7 ((comp2F g g2 ft fi2 ft2 fe ρ0 p (p.1.drop (i + 1)) s7).bind fun ys s8 => R.ok (((es ++ [x9]) ++ xs) ++ ys) s8)).bind fun zs s3 => finL m (ds ++ zs) s3) Q from h9)
              cases qd : comp2F g g2 ft fi2 ft2 fe ρ0 p (p.1.drop (i + 1)) s7 with
              | bad => rw [qd] at h10; exact h10.elim
              | ok ws s8 =>
               rw [qd] at h10
               have h10 : Dn K (rD K) as H (finL m ((ds ++ ((es ++ [x9]) ++ xs)) ++ ws) s8) Q := h10
               unfold finL at h10
               split at h10
               ·rename_i hz
                have := rs6.length
                simp at hz this
                omega
               ·exact h10.elim
            refine ⟨zs, eD9, hlen, _, by omega, as9, s9, es ++ [x9], zs ++ [v9], rfl, hl2, ?_, ?_, mD9, rl9.chgH mD9 cg, c, cg.at, ?_, ?_, cap7, h9⟩
            ·exact step_own (st6.trans st69) hD nh mD9 cg
            ·exact (st56.trans st69.toStep0).trans s05
            ·rw [← List.append_assoc]
             exact ((((rs6.mono st7).mono st8).mono st9).append (.cons r9 .nil)).mono0 s05
            ·exact ((((en7.mono st8).mono st9).mono0 s05).weak wk7)
       ·refine .inl ⟨tn2.1 (Nat.le_of_not_lt hl2), cap6, ?_⟩
        rw [List.drop_eq_nil_of_le (Nat.le_of_not_lt hl2)] at h6
        have h6 : Dn K (rD K) as H ((chk p s6 ((comp2F g g2 ft fi2 ft2 fe ρ0 p (p.1.drop (i + 1)) s6).bind fun ys s8 => R.ok ((es ++ []) ++ ys) s8)).bind fun zs s3 => finL m (ds ++ zs) s3) Q := h6
        rw [List.append_nil] at h6
        obtain ⟨c, h7⟩ := rest es s6 h6
        exact ⟨_, by omega, as6, s6, ds ++ es, zs, rfl, hl, st6, mD6, rl6, c, hD6, rs6, h7⟩
      ·rw [if_neg hnn] at h2; exact h2.elim
 ·refine .inl ⟨tn.1 (Nat.le_of_not_lt hl), ?_⟩
  rw [List.drop_eq_nil_of_le (Nat.le_of_not_lt hl)] at h2
  replace h2 : Dn K (rD K) as H (finL m (ds ++ []) s2) Q := h2
  rw [List.append_nil] at h2
  unfold finL at h2
  split at h2
  ·unfold newL at h2
   cases m with
   | true =>
    rw [if_pos rfl] at h2
    refine h2 (.ref Da) _ H' (step_end2 st2 nh mD2) (rl2.take mD2 ⟨ys, hDi, rs.mono0 (step_take mD2)⟩) (.ref (by simp [rl2.len]) fun q e => ?_)
    rw [← rl2.len] at e
    simp at e
    exact e.symm
   | false =>
    rw [if_neg Bool.false_ne_true] at h2
    cases q : pures ds with
    | none => rw [q] at h2; exact h2.elim
    | some zs =>
     rw [q] at h2
     have e := pures_eq q
     subst e
     have h2 : Dn K (rD K) as H (R.ok (.lst zs) s2) Q := h2
     refine h2 (.ref Da) _ H' (step_end st2 nh step_show) rl2.show (.da (.lst (fun z => ?_) hDi (rs.td.mono0 step_show)))
     rcases z with z | z
     ·exact rl2.hx Da mD2 z
     ·exact absurd rfl (of_decide_eq_true (List.mem_filter.mp z).2)
  ·exact h2.elim
section
variable {X : Cx} {own caps : List Str} {js : List Nat} {scope : Scope} {tg iter tg2 iter2 elt : Expr} {ifs ifs2 : List Expr} {fi fi2 : FI} {g g2 : Tg} {ft ft2 : FT} {fe : FE} {pos : Pos}
theorem ref_lc2 {K : PySem.W.Frag} {wi : TI} {k : Nat} {m : Bool} (ri : RefI K wi fi) (hl : tgLt k g = true) (hl2 : tgLt k g2 = true) : RefE K (tLc2 js k wi (gOf K g) (tOfT K ft) (tNx (tOfI K fi2) (gOf K g2) (tOfT K ft2) (tOf K fe))) (fLc2 m js k fi g ft fi2 g2 ft2 fe) := by
 intro as σ H ρ s Q rl en h
 refine ri as σ H ρ s _ rl en (Dn.bind h fun p s1 as1 H1 J st1 rl1 r1 h1 => ?_)
 obtain ⟨so, h1⟩ := Dn.chk h1
 exact lc2B hl hl2 rl1 r1 so (fun vs hv => ((en.mono st1).caps js).own hv) h1
theorem rs_setLc2 (m : Bool) {i : Nat} {y : Str} {py : Pos} {spos : Pos} (hsw : swapsWith (LC2 elt tg iter tg2 iter2 ifs ifs2 scope pos) (some (.Name y py)) spos.line X.env = pure true) (hN : X.N.Nodup) (hy : X.N[i]? = some y) (hyl : X.env.scope.names.lookup y = some .local)
  (hcalm : X.calm = true) (hkind : scope.kind = .function) (hnames : (scope.names.all fun p => !(p.2 == .local) || (scope.names.lookup p.1 == some .local)) = true) (hcell : (scope.names.any fun p => p.2 == .cell) = false)
  (hk : (scope.names.all fun p => !(p.2 == .free) || (X.env.kindOf p.1 == some .cell || X.env.kindOf p.1 == some .free)) = true)
  (hcap : Caps X scope caps js) (hl : tgLt own.length g = true) (hl2 : tgLt own.length g2 = true) (hi : RI X tg iter fi) (hg : ∀ C fp s H, RG (cxLc X own caps scope C fp s H) tg g) (ht : ∀ C fp s H, RIfs (cxLc X own caps scope C fp s H) ifs ft)
  (hi2 : ∀ C fp s H, RI (cxLc X own caps scope C fp s H) tg2 iter2 fi2) (hg2 : ∀ C fp s H, RG (cxLc X own caps scope C fp s H) tg2 g2) (ht2 : ∀ C fp s H, RIfs (cxLc X own caps scope C fp s H) ifs2 ft2) (he : ∀ C fp s H, RE (cxLc X own caps scope C fp s H) elt fe)
  (hs : ∀ x, foldedSetIterable iter X.env x = pure x := by intro _; rfl) (hs2 : ∀ C fp s H x, foldedSetIterable iter2 (cxLc X own caps scope C fp s H).env x = pure x := by intro _ _ _ _ _; rfl) : RS X (.Assign [.Name y py] (LC2 elt tg iter tg2 iter2 ifs ifs2 scope pos) spos) (fSet i (fLc2 m js own.length fi g ft fi2 g2 ft2 fe)) := by
 obtain ⟨wi, pi, ri⟩ := hi.ex
 refine ⟨_, ps_setLc2 (own := own) (tb := tNx (tOfI X.K fi2) (gOf X.K g2) (tOfT X.K ft2) (tOf X.K fe)) (g := gOf X.K g) (tt := tOfT X.K ft) hsw hN hy hyl hcalm hkind hnames hcell hk hcap pi (fun C fp s H => (hg C fp s H).pg) (fun C fp s H => (ht C fp s H).run) (fun C fp s H => pnx hcalm rfl (hi2 C fp s H).pi (hg2 C fp s H).pg (ht2 C fp s H).run (he C fp s H).pe) hs2 hs, fun as σ H ρ s D rl en h => ?_⟩
 exact ref_lc2 (m := m) ri hl hl2 as σ H ρ s _ rl en (Dn.bind h fun d s1 as1 H1 v st1 rl1 r1 h1 => Dn.now (b := FV.nx (σ.set i (some v))) h1 rl1 (.nx ((en.mono st1).set i r1)))
end
end PF
namespace L2
open PySem PySem.Spec PyProof.Rows
def srcAt (b : Bool) (h : Heap) (l : Addr) (xs : Array Value) : Prop := if b = true then h.IsList l xs else h.IsTuple l xs
def curAt (b : Bool) (h : Heap) (i l : Addr) (k : Nat) : Prop := if b = true then h.IsListIter i l k else h.IsTupleIter i l k
theorem srcAt.to {b : Bool} {h h' : Heap} {l : Addr} {xs : Array Value} (x : srcAt b h l xs) (k : ∀ o, h.get? l = some o -> h'.get? l = some o) : srcAt b h' l xs := by
 cases b with
 | true => obtain ⟨o, e, r⟩ := x; exact ⟨o, k o e, r⟩
 | false => obtain ⟨o, e, r⟩ := x; exact ⟨o, k o e, r⟩
theorem curAt.to {b : Bool} {h h' : Heap} {i l : Addr} {n : Nat} (x : curAt b h i l n) (k : ∀ o, h.get? i = some o -> h'.get? i = some o) : curAt b h' i l n := by
 cases b with
 | true => obtain ⟨o, e, r⟩ := x; exact ⟨o, k o e, r⟩
 | false => obtain ⟨o, e, r⟩ := x; exact ⟨o, k o e, r⟩
theorem curAt.obj {b : Bool} {h : Heap} {i l : Addr} {n : Nat} (x : curAt b h i l n) : ∃ o, h.get? i = some o /\ ∃ vs, o.data = .fields vs := by
 cases b with
 | true => obtain ⟨o, e, _, r⟩ := x; exact ⟨o, e, _, r⟩
 | false => obtain ⟨o, e, _, r⟩ := x; exact ⟨o, e, _, r⟩
theorem srcAt.lt {b : Bool} {h : Heap} {l : Addr} {xs : Array Value} (x : srcAt b h l xs) : l < h.objs.size := by
 cases b with
 | true => obtain ⟨o, e, r⟩ := x; exact Heap.lt_size e
 | false => obtain ⟨o, e, r⟩ := x; exact Heap.lt_size e
section
variable {P : Program} {w : World} {A : Around} {E : Value -> Shared -> Prop} {s : Shared}
open PySem.F in
theorem nextOf_item {b : Bool} {i l : Addr} {k : Nat} {xs : Array Value} {x : Value} {Q : Value -> Shared -> Prop} (hi : curAt b s.heap i l k) (hl : srcAt b s.heap l xs) (hx : xs[k]? = some x)
  (hQ : ∀ h', curAt b h' i l (k + 1) -> Heap.SameBut i s.heap h' -> Q x { s with heap := h' }) : wpAny (model P w) A (Builtin.SmallTypes.nextOf (.ref i)) Q E s := by
 cases b with
 | true => exact wpAny_nextOf_list_item hi hl hx hQ
 | false =>
  have hi : s.heap.IsTupleIter i l k := hi
  have hl : s.heap.IsTuple l xs := hl
  obtain ⟨o, ho, hc, hd⟩ := id hi
  (obtain ⟨ol, hol, _, nl, hdl⟩ := hl)
  refine wpAny_bind (wpAny_callSpecial?_slot (name := Str.ofString "__next__") hi.typeIs slot_tuple_iterator_next (wpAny_call_entry slot_tuple_iterator_next hi.typeIs entry_tuple_iterator_next ?_ (args_tuple_iterator_next_1 _)))
  wp_walk using wpAny_field ho hd (x := .ref l) rfl, wpAny_field ho hd (x := .int k 0) rfl, wpAny_seqItems hol hdl
  (simp only [Int.toNat_natCast, hx])
  refine wpAny_bind (wpAny_setField ho hd (by simp) (wpAny_pure ⟨_, rfl, wpAny_pure (hQ _ ?_ (.update ..))⟩))
  exact ⟨_, Heap.get?_update_self _ ho (Obj.isFreed_of_fields (Obj.data_mapFields hd _)), by rw [Obj.cls_mapFields]; exact hc, by rw [Obj.data_mapFields hd]; simp [rawInt]⟩
open PySem.F in
theorem nextOf_end {b : Bool} {i l : Addr} {k : Nat} {xs : Array Value} {Q : Value -> Shared -> Prop} (hh : A.handled = none) (hi : curAt b s.heap i l k) (hl : srcAt b s.heap l xs) (hx : xs[k]? = none)
  (hE : ∀ h' e, Heap.ExtBut i s.heap h' -> (∃ o, h'.get? e = some o /\ o.cls = .type "StopIteration") -> E (.ref e) { s with heap := h' }) : wpAny (model P w) A (Builtin.SmallTypes.nextOf (.ref i)) Q E s := by
 cases b with
 | true => exact wpAny_nextOf_list_end hh hi hl hx hE
 | false =>
  have hi : s.heap.IsTupleIter i l k := hi
  have hl : s.heap.IsTuple l xs := hl
  obtain ⟨o, ho, hc, hd⟩ := id hi
  (obtain ⟨ol, hol, _, nl, hdl⟩ := hl)
  refine wpAny_bind (wpAny_callSpecial?_slot (name := Str.ofString "__next__") hi.typeIs slot_tuple_iterator_next (wpAny_call_entry slot_tuple_iterator_next hi.typeIs entry_tuple_iterator_next ?_ (args_tuple_iterator_next_1 _)))
  (have hh1 : A.in1.handled = none := hh)
  wp_walk using wpAny_field ho hd (x := .ref l) rfl, wpAny_field ho hd (x := .int k 0) rfl, wpAny_seqItems hol hdl
  (simp only [Int.toNat_natCast, hx])
  (refine wpAny_bind (wpAny_rule (wpAny_bind (wpAny_setField ho hd (by simp) ?_))))
  wp_walk
  simp only [raiseNew]
  (refine wpAny_bind (wpAny_handled ?_))
  rw [hh1]
  refine wpAny_bind (wpAny_pure (wpAny_throw (hE _ _ (((Heap.SameBut.update ..).extBut.push _).push _) ?_)))
  exact ⟨_, Heap.get?_push_size _ rfl, rfl⟩
end
end L2
namespace L2
open PySem PySem.Spec PyProof.Rows
section
variable {P : Program} {w : World} {A : Around} {E : Value -> Shared -> Prop} {s : Shared}
structure ZAt (b1 b2 : Bool) (l1 l2 z TI TO i1 i2 : Addr) (f0 : Value) (k1 k2 : Nat) (h : Heap) : Prop where
 ap : ZipApart z TI TO i1 i2 l1 l2
 oz : IsZip h z TI TO f0
 oi : IsPair h TI (.ref i1) (.ref i2)
 oo : ∃ a b, IsPair h TO a b
 c1 : curAt b1 h i1 l1 k1
 c2 : curAt b2 h i2 l2 k2
theorem zip_it {b1 b2 : Bool} {z TI TO i1 i2 l1 l2 : Addr} {k1 k2 : Nat} {xs ys : Array Value} {x y : Value} {Q : Value -> Shared -> Prop} (Z : ZAt b1 b2 l1 l2 z TI TO i1 i2 .none k1 k2 s.heap)
  (hl1 : srcAt b1 s.heap l1 xs) (hl2 : srcAt b2 s.heap l2 ys) (hx : xs[k1]? = some x) (hy : ys[k2]? = some y)
  (hQ : ∀ h', ZAt b1 b2 l1 l2 z TI TO i1 i2 (rawInt s.heap.objs.size) (k1 + 1) (k2 + 1) h' -> IsPair h' s.heap.objs.size x y ->
   (∀ c o, c ≠ z -> c ≠ TO -> c ≠ i1 -> c ≠ i2 -> s.heap.get? c = some o -> h'.get? c = some o) -> Q (.ref s.heap.objs.size) { s with heap := h' }) :
  wpAny (model P w) A (Builtin.«zip.__next__» ⟨[.ref z], []⟩) (fun fin s' => ∃ v, fin = .done (.ret v) /\ Q v s') E s := by
 obtain ⟨ap, oz, oi, ⟨a, b, oo⟩, c1, c2⟩ := Z
 (show wpAny _ _ (field (.ref z) 2 >>= _) _ _ _); refine wpAny_bind (wpAny_field oz rfl (x := .bool false) rfl ?_)
 (show wpAny _ _ (field (.ref z) 3 >>= _) _ _ _); refine wpAny_bind (wpAny_field oz rfl (x := .ref TI) rfl (wpAny_bind (wpAny_seqItems oi rfl ?_)))
 (show wpAny _ _ (Builtin.SmallTypes.ownedTupleIsFree (.ref z) >>= _) _ _ _); refine wpAny_bind (wpAny_bind (wpAny_field oz rfl (x := .none) rfl (wpAny_pure ?_)))
 simp only [if_true]
 refine wpAny_bind (wpAny_rule (wpAny_bind (wpAny_field oz rfl (x := .ref TO) rfl (wpAny_bind (wpAny_setField_rec oz (by simp) fun g1 z1 e1 => wpAny_bind ?_)))))
 have z1 : IsZip g1 z TI TO .ellipsis := z1
 (simp only [List.zipIdx_cons, List.zipIdx_nil, List.forIn_cons, List.forIn_nil])
 (refine wpAny_bind (wpAny_bind (wpAny_onRaise ?_)))
 (show wpAny _ _ (Builtin.SmallTypes.nextOf (.ref i1) >>= _) _ _ _); refine wpAny_bind (nextOf_item (c1.to fun o => e1.extBut _ _ ap.i1z) (hl1.to fun o => e1.extBut _ _ ap.l1z) hx fun g2 c1' e2 => wpAny_pure ?_)
 have o2 : IsPair g2 TO a b := e2.extBut _ _ ap.TOi1 (e1.extBut _ _ ap.TOz oo)
 refine wpAny_bind (wpAny_seqItems o2 rfl (wpAny_bind (wpAny_updateSeq_pair o2 fun g3 o3 e3 => wpAny_bind (wpAny_letGo (wpAny_pure (wpAny_bind (wpAny_bind (wpAny_onRaise ?_))))))))
 have o3 : IsPair g3 TO x b := o3
 have k3 : ∀ c o, c ≠ z -> c ≠ i1 -> c ≠ TO -> s.heap.get? c = some o -> g3.get? c = some o := fun c o a1 a2 a3 e => e3.extBut _ _ a3 (e2.extBut _ _ a2 (e1.extBut _ _ a1 e))
 (show wpAny _ _ (Builtin.SmallTypes.nextOf (.ref i2) >>= _) _ _ _); refine wpAny_bind (nextOf_item (c2.to fun o => k3 _ o ap.i2z ap.i12.symm ap.TOi2.symm) (hl2.to fun o => k3 _ o ap.l2z ap.l2i1 ap.l2TO) hy fun g4 c2' e4 => wpAny_pure ?_)
 have o4 : IsPair g4 TO x b := e4.extBut _ _ ap.TOi2 o3
 refine wpAny_bind (wpAny_seqItems o4 rfl (wpAny_bind (wpAny_updateSeq_pair o4 fun g5 o5 e5 => wpAny_bind (wpAny_letGo (wpAny_pure (wpAny_pure ?_))))))
 have o5 : IsPair g5 TO x y := o5
 refine wpAny_bind (wpAny_seqItems o5 rfl (wpAny_bind (wpAny_newTuple ?_)))
 have sz : g5.objs.size = s.heap.objs.size := by rw [e5.1, e4.1, e3.1, e2.1, e1.1]
 have z5 : IsZip g5 z TI TO .ellipsis := e5.extBut _ _ ap.TOz.symm (e4.extBut _ _ ap.i2z.symm (e3.extBut _ _ ap.TOz.symm (e2.extBut _ _ ap.i1z.symm z1)))
 have k5 : ∀ c o, c ≠ z -> c ≠ TO -> c ≠ i1 -> c ≠ i2 -> s.heap.get? c = some o -> g5.get? c = some o := fun c o a1 a2 a3 a4 e => e5.extBut _ _ a2 (e4.extBut _ _ a4 (k3 c o a1 a3 a2 e))
 have c15 : curAt b1 g5 i1 l1 (k1 + 1) := c1'.to fun o e => e5.extBut _ _ ap.TOi1.symm (e4.extBut _ _ ap.i12 (e3.extBut _ _ ap.TOi1.symm e))
 have c25 : curAt b2 g5 i2 l2 (k2 + 1) := c2'.to fun o e => e5.extBut _ _ ap.TOi2.symm e
 (show wpAny _ _ (Builtin.SmallTypes.ownedTupleHandOut (.ref z) (.ref g5.objs.size) >>= _) _ _ _); refine wpAny_bind ?_
 have z6 : IsZip (g5.push { cls := .type "tuple", data := .seq #[x, y] }) z TI TO .ellipsis := Heap.get?_push_of_some _ z5
 refine wpAny_bind (wpAny_setField_rec z6 (by simp) fun g7 z7 e7 => ?_)
 have z7 : IsZip g7 z TI TO (rawInt g5.objs.size) := z7
 refine wpAny_setField_rec z7 (by simp) fun g8 z8 e8 => ?_
 have z8 : IsZip g8 z TI TO (rawInt g5.objs.size) := z8
 have up : ∀ c o, c ≠ z -> g5.get? c = some o -> g8.get? c = some o := fun c o a1 e => e8.extBut _ _ a1 (e7.extBut _ _ a1 (Heap.get?_push_of_some _ e))
 have nz : g5.objs.size ≠ z := Nat.ne_of_gt (Heap.lt_size z5)
 have t8 : IsPair g8 g5.objs.size x y := e8.extBut _ _ nz (e7.extBut _ _ nz (Heap.get?_push_size _ rfl))
 rw [sz] at z8 t8
 (refine wpAny_pure ⟨_, rfl, ?_⟩)
 show Q (.ref g5.objs.size) _
 rw [sz]
 exact hQ g8 ⟨ap, z8, up _ _ ap.TIz (k5 _ _ ap.TIz ap.TITO ap.TIi1 ap.TIi2 oi), ⟨_, _, up _ _ ap.TOz o5⟩, c15.to fun o => up _ o ap.i1z, c25.to fun o => up _ o ap.i2z⟩ t8 fun c o a1 a2 a3 a4 e => up c o a1 (k5 c o a1 a2 a3 a4 e)
theorem zip_fin {b1 b2 : Bool} {z TI TO i1 i2 l1 l2 : Addr} {k1 k2 : Nat} {xs ys : Array Value} {Q : Fin -> Shared -> Prop} (hh : A.handled = none) (Z : ZAt b1 b2 l1 l2 z TI TO i1 i2 .none k1 k2 s.heap)
  (hl1 : srcAt b1 s.heap l1 xs) (hl2 : srcAt b2 s.heap l2 ys) (hend : xs[k1]? = none \/ ys[k2]? = none)
  (hE : ∀ h' e, (∀ c o, c ≠ z -> c ≠ TO -> c ≠ i1 -> c ≠ i2 -> s.heap.get? c = some o -> h'.get? c = some o) -> (∃ o, h'.get? e = some o /\ o.cls = .type "StopIteration") -> E (.ref e) { s with heap := h' }) :
  wpAny (model P w) A (Builtin.«zip.__next__» ⟨[.ref z], []⟩) Q E s := by
 obtain ⟨ap, oz, oi, ⟨a, b, oo⟩, c1, c2⟩ := Z
 (show wpAny _ _ (field (.ref z) 2 >>= _) _ _ _); refine wpAny_bind (wpAny_field oz rfl (x := .bool false) rfl ?_)
 (show wpAny _ _ (field (.ref z) 3 >>= _) _ _ _); refine wpAny_bind (wpAny_field oz rfl (x := .ref TI) rfl (wpAny_bind (wpAny_seqItems oi rfl ?_)))
 (show wpAny _ _ (Builtin.SmallTypes.ownedTupleIsFree (.ref z) >>= _) _ _ _); refine wpAny_bind (wpAny_bind (wpAny_field oz rfl (x := .none) rfl (wpAny_pure ?_)))
 simp only [if_true]
 refine wpAny_bind (wpAny_rule (wpAny_bind (wpAny_field oz rfl (x := .ref TO) rfl (wpAny_bind (wpAny_setField_rec oz (by simp) fun g1 z1 e1 => wpAny_bind ?_)))))
 have z1 : IsZip g1 z TI TO .ellipsis := z1
 have stop : ∀ (g : Heap) (o : Obj) (e : Addr), IsZip g z TI TO .ellipsis -> g.get? e = some o -> o.cls = .type "StopIteration" -> e ≠ z := fun g o e hz ho hc q => by
  subst q; rw [hz] at ho; cases ho; simp at hc
 (simp only [List.zipIdx_cons, List.zipIdx_nil, List.forIn_cons, List.forIn_nil])
 (refine wpAny_bind (wpAny_bind (wpAny_onRaise ?_)))
 (show wpAny _ _ (Builtin.SmallTypes.nextOf (.ref i1) >>= _) _ _ _); cases hx : xs[k1]? with
 | none =>
  refine wpAny_bind (nextOf_end hh (c1.to fun o => e1.extBut _ _ ap.i1z) (hl1.to fun o => e1.extBut _ _ ap.l1z) hx fun g2 e e2 ⟨oe, he, ce⟩ => ?_)
  have z2 : IsZip g2 z TI TO .ellipsis := e2 _ _ ap.i1z.symm z1
  exact wpAny_setField_rec z2 (by simp) fun g3 _ e3 => hE g3 e (fun c o a1 _ a3 _ q => e3.extBut _ _ a1 (e2 _ _ a3 (e1.extBut _ _ a1 q))) ⟨oe, e3.extBut _ _ (stop _ _ _ z2 he ce) he, ce⟩
 | some x =>
  have hy : ys[k2]? = none := hend.elim (fun h => by rw [hx] at h; cases h) id
  refine wpAny_bind (nextOf_item (c1.to fun o => e1.extBut _ _ ap.i1z) (hl1.to fun o => e1.extBut _ _ ap.l1z) hx fun g2 c1' e2 => wpAny_pure ?_)
  have o2 : IsPair g2 TO a b := e2.extBut _ _ ap.TOi1 (e1.extBut _ _ ap.TOz oo)
  refine wpAny_bind (wpAny_seqItems o2 rfl (wpAny_bind (wpAny_updateSeq_pair o2 fun g3 o3 e3 => wpAny_bind (wpAny_letGo (wpAny_pure (wpAny_bind (wpAny_bind (wpAny_onRaise ?_))))))))
  have k3 : ∀ c o, c ≠ z -> c ≠ i1 -> c ≠ TO -> s.heap.get? c = some o -> g3.get? c = some o := fun c o a1 a2 a3 e => e3.extBut _ _ a3 (e2.extBut _ _ a2 (e1.extBut _ _ a1 e))
  (show wpAny _ _ (Builtin.SmallTypes.nextOf (.ref i2) >>= _) _ _ _); refine wpAny_bind (nextOf_end hh (c2.to fun o => k3 _ o ap.i2z ap.i12.symm ap.TOi2.symm) (hl2.to fun o => k3 _ o ap.l2z ap.l2i1 ap.l2TO) hy fun g4 e e4 ⟨oe, he, ce⟩ => ?_)
  have z4 : IsZip g4 z TI TO .ellipsis := e4 _ _ ap.i2z.symm (e3.extBut _ _ ap.TOz.symm (e2.extBut _ _ ap.i1z.symm z1))
  exact wpAny_setField_rec z4 (by simp) fun g5 _ e5 => hE g5 e (fun c o a1 a2 a3 a4 q => e5.extBut _ _ a1 (e4 _ _ a4 (k3 c o a1 a3 a2 q))) ⟨oe, e5.extBut _ _ (stop _ _ _ z4 he ce) he, ce⟩
theorem next_it {b1 b2 : Bool} {z TI TO i1 i2 l1 l2 : Addr} {k1 k2 : Nat} {xs ys : Array Value} {x y : Value} {Q : Option Value -> Shared -> Prop} (Z : ZAt b1 b2 l1 l2 z TI TO i1 i2 .none k1 k2 s.heap)
  (hl1 : srcAt b1 s.heap l1 xs) (hl2 : srcAt b2 s.heap l2 ys) (hx : xs[k1]? = some x) (hy : ys[k2]? = some y)
  (hQ : ∀ h', ZAt b1 b2 l1 l2 z TI TO i1 i2 (rawInt s.heap.objs.size) (k1 + 1) (k2 + 1) h' -> IsPair h' s.heap.objs.size x y ->
   (∀ c o, c ≠ z -> c ≠ TO -> c ≠ i1 -> c ≠ i2 -> s.heap.get? c = some o -> h'.get? c = some o) -> Q (some (.ref s.heap.objs.size)) { s with heap := h' }) :
  wpAny (model P w) A (pyNext (.ref z)) Q E s :=
 have hT : s.TypeIs (.ref z) "zip" := ⟨_, Z.oz, rfl⟩
 wpAny_bind (wpAny_attempt (wpAny_callSpecial?_slot (name := Str.ofString "__next__") hT F.slot_zip_next (wpAny_call_entry F.slot_zip_next hT F.entry_zip_next (zip_it Z hl1 hl2 hx hy fun h' a1 a2 a3 => wpAny_pure (hQ h' a1 a2 a3)) (F.args_zip_next_1 _))))
theorem next_fin {b1 b2 : Bool} {z TI TO i1 i2 l1 l2 : Addr} {k1 k2 : Nat} {xs ys : Array Value} {Q : Option Value -> Shared -> Prop} (hh : A.handled = none) (Z : ZAt b1 b2 l1 l2 z TI TO i1 i2 .none k1 k2 s.heap)
  (hl1 : srcAt b1 s.heap l1 xs) (hl2 : srcAt b2 s.heap l2 ys) (hend : xs[k1]? = none \/ ys[k2]? = none)
  (hQ : ∀ h', (∀ c o, c ≠ z -> c ≠ TO -> c ≠ i1 -> c ≠ i2 -> s.heap.get? c = some o -> h'.get? c = some o) -> Q none { s with heap := h' }) : wpAny (model P w) A (pyNext (.ref z)) Q E s :=
 have hT : s.TypeIs (.ref z) "zip" := ⟨_, Z.oz, rfl⟩
 wpAny_bind (wpAny_attempt (wpAny_callSpecial?_slot (name := Str.ofString "__next__") hT F.slot_zip_next (wpAny_call_entry F.slot_zip_next hT F.entry_zip_next (zip_fin hh Z hl1 hl2 hend fun h' e hk ⟨o, ho, hc⟩ =>
  wpAny_bind (wpAny_isInstance (T := "StopIteration") (b := true) ⟨o, ho, hc⟩ isSubtype_stop (wpAny_pure (hQ _ hk)))) (F.args_zip_next_1 _))))
end
end L2
namespace L2
open PySem PySem.Spec PyProof.Rows
def SqB (K : PySem.W.Frag) (b : Bool) (H : Hp) (l : Addr) (xs : List V) : Prop := if b = true then SqL K H l xs else SqT K H l xs
theorem Inv.seqB {X : Cx} {pins : List (Addr × Obj)} {σ : St} {H : Hp} {s : Shared} {b : Bool} {l : Addr} {xs : List V} (I : Inv X pins σ H s) (q : SqB X.K b H l xs) : ∃ its, Vals xs its /\ srcAt b s.heap l its.toArray := by
 cases b with
 | true => obtain ⟨its, rv, p, _⟩ := I.list q; exact ⟨its, rv, p.isList⟩
 | false => obtain ⟨its, rv, p, _⟩ := I.tuple q; exact ⟨its, rv, p⟩
def Itzb (K : PySem.W.Frag) (b1 b2 : Bool) (l1 l2 : Addr) : It :=
 ⟨fun i H => ∃ xs ys x y, SqB K b1 H l1 xs /\ SqB K b2 H l2 ys /\ xs[i]? = some x /\ ys[i]? = some y,
   fun i H v H' => ∃ T, v = .ref T /\ ∀ xs ys, SqB K b1 H l1 xs -> SqB K b2 H l2 ys -> ∃ x y, xs[i]? = some x /\ ys[i]? = some y /\ New H T (.tup [x, y]) H',
   fun i H => ∃ xs ys, SqB K b1 H l1 xs /\ SqB K b2 H l2 ys /\ (xs.length <= i \/ ys.length <= i)⟩
theorem Inv.seqB_inj {X : Cx} {pins : List (Addr × Obj)} {σ : St} {H : Hp} {s : Shared} {b : Bool} {l : Addr} {xs ys : List V} (I : Inv X pins σ H s) (p : SqB X.K b H l xs) (q : SqB X.K b H l ys) : xs = ys := by
 cases b with
 | true => exact I.list_inj p q
 | false => exact I.tuple_inj p q
theorem turn_zipb {P : Program} {w : World} {K : PySem.W.Frag} {es : List Expr} {x1 : Nat} {pos : Pos} {b1 b2 : Bool} (l1 l2 z TI TO i1 i2 : Addr) : Turn P w K (.Tuple es x1 pos) (Itzb K b1 b2 l1 l2) [z, TI, TO, i1, i2] z (fun i h => ZAt b1 b2 l1 l2 z TI TO i1 i2 .none i i h) where
 mem := by simp
 obj := fun i h ⟨_, hz, hTI, ⟨a, c, hTO⟩, q1, q2⟩ b hb => by
  obtain ⟨o1, e1, v1, d1⟩ := q1.obj
  obtain ⟨o2, e2, v2, d2⟩ := q2.obj
  (simp only [List.mem_cons, List.not_mem_nil, or_false] at hb)
  rcases hb with rfl | rfl | rfl | rfl | rfl
  ·exact ⟨_, hz, fun v y => by cases y⟩
  ·exact ⟨_, hTI, fun v y => by cases y⟩
  ·exact ⟨_, hTO, fun v y => by cases y⟩
  ·exact ⟨_, e1, fun v y => by rw [d1] at y; cases y⟩
  ·exact ⟨_, e2, fun v y => by rw [d2] at y; cases y⟩
 keep := fun i h h' ⟨D, hz, hTI, ⟨a, c, hTO⟩, q1, q2⟩ k =>
  ⟨D, k z (by simp) _ hz, k TI (by simp) _ hTI, ⟨a, c, k TO (by simp) _ hTO⟩, q1.to fun o e => k i1 (by simp) o e, q2.to fun o e => k i2 (by simp) o e⟩
 item := by
  intro X hP hw hK hc i pins s σ H E I hf st hg
  subst hP hw hK
  obtain ⟨xs, ys, x, y, q1, q2, hx, hy⟩ := hg
  obtain ⟨its1, rv1, p1⟩ := I.seqB q1
  obtain ⟨its2, rv2, p2⟩ := I.seqB q2
  obtain ⟨u1, hu1, ru1⟩ := rv1.get hx
  obtain ⟨u2, hu2, ru2⟩ := rv2.get hy
  refine next_it st p1 p2 (x := u1) (y := u2) (by simpa using hu1) (by simpa using hu2) fun h' Z a5 k => ?_
  refine ⟨_, rfl, wpAny_letOwnedTupleGo_zip (s := { s with heap := h' }) Z.oz fun h2' hz' sb => ?_⟩
  have lt : ∀ b ∈ [z, TI, TO, i1, i2], b < s.heap.objs.size := fun b hb => by
   obtain ⟨_, hz, hTI, ⟨_, _, hTO⟩, q1, q2⟩ := st
   obtain ⟨o1, e1, _⟩ := q1.obj
   obtain ⟨o2, e2, _⟩ := q2.obj
   (simp only [List.mem_cons, List.not_mem_nil, or_false] at hb)
   rcases hb with rfl | rfl | rfl | rfl | rfl
   ·exact Heap.lt_size hz
   ·exact Heap.lt_size hTI
   ·exact Heap.lt_size hTO
   ·exact Heap.lt_size e1
   ·exact Heap.lt_size e2
  have I1 : Inv X pins σ (upd H s.heap.objs.size (.tup [x, y])) { s with heap := s.heap.push { cls := .type "tuple", data := .seq #[u1, u2] }, toks := s.toks } :=
   I.laid (fun b u e => Heap.get?_push_of_some _ e) (Nat.le_refl _) ⟨by show 2 <= sizeLine; decide, [u1, u2], .cons ru1 (.cons ru2 .nil), ⟨_, Heap.get?_push_size _ rfl, rfl, _, rfl⟩⟩
  have nT : ∀ b ∈ [z, TI, TO, i1, i2], upd H s.heap.objs.size (.tup [x, y]) b = none := fun b hb => by
   rw [upd_ne (Nat.ne_of_lt (lt b hb))]; exact (hf b hb).1
  have D := Z.ap
  have I2 := I1.turnedL (h' := h2') (t' := s.toks) (ch := [z, TI, TO, i1, i2]) (fun b o hb e => by
   have hbz : b ≠ z := fun y => hb (by simp [y])
   rw [sb.2 b hbz]
   by_cases hT : b = s.heap.objs.size
   ·subst hT
    rw [Heap.get?_push_size _ rfl] at e
    cases e
    exact a5
   ·rw [Heap.get?_push_ne _ _ _ hT] at e
    exact k b o hbz (fun y => hb (by simp [y])) (fun y => hb (by simp [y])) (fun y => hb (by simp [y])) e) fun b hb => ⟨nT b hb, (hf b hb).2⟩
  obtain ⟨_, _, oi, ⟨_, _, oo⟩, c1, c2⟩ := Z
  refine ⟨.ref s.heap.objs.size, _, I2, rfl, ⟨_, rfl, fun xs' ys' q1' q2' => ?_⟩, ⟨D, hz', sb.extBut _ _ D.TIz oi, ⟨_, _, sb.extBut _ _ D.TOz oo⟩, c1.to fun o => sb.extBut _ _ D.i1z, c2.to fun o => sb.extBut _ _ D.i2z⟩, nT⟩
  rw [I.seqB_inj q1' q1, I.seqB_inj q2' q2]
  exact ⟨x, y, hx, hy, I.fresh, rfl⟩
 done := by
  intro X hP hw hK hc i pins s σ H E I hf st hg
  subst hP hw hK
  obtain ⟨xs, ys, q1, q2, hx⟩ := hg
  obtain ⟨its1, rv1, p1⟩ := I.seqB q1
  obtain ⟨its2, rv2, p2⟩ := I.seqB q2
  have l1' := rv1.length
  have l2' := rv2.length
  refine next_fin (I.ok.hd hc) st p1 p2 ?_ fun h' k => ⟨rfl, I.turnedL (t' := s.toks) (ch := [z, TI, TO, i1, i2]) (fun b o hb e => k b o (fun y => hb (by simp [y])) (fun y => hb (by simp [y])) (fun y => hb (by simp [y])) (fun y => hb (by simp [y])) e) hf⟩
  rcases hx with hx | hx
  ·exact .inl (by simp; omega)
  ·exact .inr (by simp; omega)
 self := fun _ _ _ _ _ st h => wpAny_pyIter_zip st.oz h
def itNm (b : Bool) : String := if b = true then "list_iterator" else "tuple_iterator"
section
variable {P : Program} {w : World} {A : Around} {E : Value -> Shared -> Prop} {s : Shared}
theorem iterB {b : Bool} {l : Addr} {xs : Array Value} {Q : Value -> Shared -> Prop} (h : srcAt b s.heap l xs) (hQ : Q (.ref s.heap.objs.size) { s with heap := s.heap.push { cls := .type (itNm b), data := .fields #[.ref l, .int 0 0] } }) : wpAny (model P w) A (pyIter (.ref l)) Q E s := by
 cases b with
 | true => exact wpAny_pyIter_list h hQ
 | false => exact wpAny_pyIter_tuple h hQ
theorem curB {b : Bool} {h : Heap} {i l : Addr} (e : h.get? i = some { cls := .type (itNm b), data := .fields #[.ref l, .int 0 0] }) : curAt b h i l 0 := by
 cases b with
 | true => exact ⟨_, e, rfl, rfl⟩
 | false => exact ⟨_, e, rfl, rfl⟩
def zH (h : Heap) (b1 b2 : Bool) (l1 l2 : Addr) : Heap :=
 ((((h.push { cls := .type (itNm b1), data := .fields #[.ref l1, .int 0 0] }).push { cls := .type (itNm b2), data := .fields #[.ref l2, .int 0 0] }).push { cls := .type "tuple", data := .seq #[.ref h.objs.size, .ref (h.objs.size + 1)] }).push { cls := .type "tuple", data := .seq #[.none, .none] }).push
  { cls := .type "zip", data := .fields #[.none, .bool false, .bool false, .ref (h.objs.size + 2), .ref (h.objs.size + 3)] }
theorem meets_zipb (b1 b2 : Bool) (l1 l2 : Addr) (xs ys : Array Value) :
  Meets (Builtin.«zip.__new__» ⟨[.type "zip", .ref l1, .ref l2], []⟩) (fun _ R s => srcAt b1 s.heap l1 xs /\ srcAt b2 s.heap l2 ys /\ R (.ok (.ret (.ref (s.heap.objs.size + 4)))) { s with heap := zH s.heap b1 b2 l1 l2 }) :=
 .of_wp fun prog w A R s h => by
  obtain ⟨hp, g, d, tk, os⟩ := s; obtain ⟨h1, h2, h⟩ := h
  have hsub := sub_zip
  have L1 : srcAt b1 (Shared.heap ⟨hp, g, d, tk, os⟩) l1 xs := h1
  have L2 : srcAt b2 (Shared.heap ⟨hp.push { cls := .type (itNm b1), data := .fields #[.ref l1, .int 0 0] }, g, d, tk, os⟩) l2 ys := h2.to fun o => Heap.get?_push_of_some _
  wp_walk using iterB L1, iterB L2
  refine ⟨_, rfl, ?_⟩
  simp only [Heap.size_push]
  exact h
theorem call_zipb {b1 b2 : Bool} {l1 l2 : Addr} {xs ys : Array Value} {Q : Value -> Shared -> Prop} (h1 : srcAt b1 s.heap l1 xs) (h2 : srcAt b2 s.heap l2 ys)
  (h : ∀ h', ZAt b1 b2 l1 l2 (s.heap.objs.size + 4) (s.heap.objs.size + 2) (s.heap.objs.size + 3) s.heap.objs.size (s.heap.objs.size + 1) .none 0 0 h' -> (∀ c o, s.heap.get? c = some o -> h'.get? c = some o) -> Q (.ref (s.heap.objs.size + 4)) { s with heap := h' }) :
  wpAny (model P w) A (call (.type "zip") [.ref l1, .ref l2]) Q E s := by
 refine callType_new F.called_zip (by decide) (F.typeCall_zip_2 _ _) (F.newCall_zip_2 _ _) (fun obj => F.args_object_init_3 obj _ _) F.entry_zip_new (meets_zipb b1 b2 l1 l2 xs ys) ⟨h1, h2, ?_⟩
 have q1 := h1.lt
 have q2 := h2.lt
 have up : ∀ (g : Heap) (o : Obj) (n : Nat), n = g.objs.size -> o.isFreed = false -> (g.push o).get? n = some o := fun g o n e hf => by subst e; exact Heap.get?_push_size _ hf
 have sz : ∀ (g : Heap) (o : Obj) (n : Nat), g.objs.size = n -> (g.push o).objs.size = n + 1 := fun g o n e => by rw [Heap.size_push, e]
 have g5 : IsZip (zH s.heap b1 b2 l1 l2) (s.heap.objs.size + 4) (s.heap.objs.size + 2) (s.heap.objs.size + 3) .none := up _ _ _ (by simp only [Heap.size_push]) rfl
 have g4 : IsPair (zH s.heap b1 b2 l1 l2) (s.heap.objs.size + 3) .none .none := Heap.get?_push_of_some _ (up _ _ _ (by simp only [Heap.size_push]) rfl)
 have g3 : IsPair (zH s.heap b1 b2 l1 l2) (s.heap.objs.size + 2) (.ref s.heap.objs.size) (.ref (s.heap.objs.size + 1)) := Heap.get?_push_of_some _ (Heap.get?_push_of_some _ (up _ _ _ (by simp only [Heap.size_push]) rfl))
 have g2 : (zH s.heap b1 b2 l1 l2).get? (s.heap.objs.size + 1) = some { cls := .type (itNm b2), data := .fields #[.ref l2, .int 0 0] } := Heap.get?_push_of_some _ (Heap.get?_push_of_some _ (Heap.get?_push_of_some _ (up _ _ _ (by simp only [Heap.size_push]) rfl)))
 have g1 : (zH s.heap b1 b2 l1 l2).get? s.heap.objs.size = some { cls := .type (itNm b1), data := .fields #[.ref l1, .int 0 0] } := Heap.get?_push_of_some _ (Heap.get?_push_of_some _ (Heap.get?_push_of_some _ (Heap.get?_push_of_some _ (up _ _ _ rfl rfl))))
 refine ⟨⟨_, g5, rfl⟩, h _ ⟨?_, g5, g3, ⟨_, _, g4⟩, curB g1, curB g2⟩ fun c o x => Heap.get?_push_of_some _ (Heap.get?_push_of_some _ (Heap.get?_push_of_some _ (Heap.get?_push_of_some _ (Heap.get?_push_of_some _ x))))⟩
 constructor <;> (unfold Addr at *; omega)
end
def iZipB (K : PySem.W.Frag) (ta : TA) : TI := fun σ H R => ta σ H fun vs H1 => ∃ l1 l2 xs ys b1 b2, vs = [.ref l1, .ref l2] /\ SqB K b1 H1 l1 xs /\ SqB K b2 H1 l2 ys /\ R (Itzb K b1 b2 l1 l2) H1
section
variable {X : Cx}
theorem pi_zipB {es : List Expr} {x1 : Nat} {tp : Pos} {a b : Expr} {ta : TA} {p pos : Pos} (hg : Gl X "zip") (hm : X.mg "zip" = none) (ha : PA X [a, b] ta) (hs : starEach [a, b] X.env = [(false, eval a X.env), (false, eval b X.env)] := by rfl) (hs2 : starEach [b] X.env = [(false, eval b X.env)] := by rfl) :
  PI X (.Tuple es x1 tp) (.Call (.Name "zip" p) [a, b] [] pos) (iZipB X.K ta) := by
 intro pins s σ H R I h
 refine Call_ (ld_blt I hg hm b_zip (PyProof.Rows.callWith_type1 (thn (ha pos pins s σ H _ I h) fun us s1 ⟨vs, H1, I1, r1, q1⟩ => ?_) (by rw [hs, hs2]) (by rw [hs2]; rfl)))
 obtain ⟨l1, l2, xs, ys, b1, b2, e, q1, q2, q⟩ := q1
 subst e
 cases r1 with
 | cons r rr =>
  cases rr with
  | cons r' rr =>
   cases rr
   cases r
   cases r'
   obtain ⟨its1, rv1, p1⟩ := I1.seqB q1
   obtain ⟨its2, rv2, p2⟩ := I1.seqB q2
   refine call_zipb p1 p2 fun h' Z k => wpAny_pyIter_zip (s := { s1 with heap := h' }) Z.oz ?_
   refine ⟨s1.heap.objs.size + 4, _, _, _, H1, rfl, I1.kept (t' := s1.toks) k, turn_zipb l1 l2 _ _ _ _ _, Z, fun b hb => ?_, q⟩
   have hb' : s1.heap.objs.size <= b := by
    (simp only [List.mem_cons, List.not_mem_nil, or_false] at hb)
    rcases hb with rfl | rfl | rfl | rfl | rfl <;> (unfold Addr at *; omega)
   exact I1.fpOk hb' (I1.hok.fresh hb')
end
end L2
namespace PF
open PySem PySem.Spec
open L2
section
variable {X : Cx}
def sqD : D -> Option (Bool × List PyData)
 | .lst xs => some (true, xs)
 | .tup xs => some (false, xs)
 | _ => none
def gZipB (ds : List D) (s : S) : R Wk := match ds with
 | [a, b] => match sqD a, sqD b with
  | some (_, xs), some (_, ys) => .ok ((xs.zip ys).map fun p => D.tup [p.1, p.2], none) s
  | _, _ => .bad
 | _ => .bad
def fZipB (f : FA) : FI := fun ρ s => (f ρ s).bind gZipB
theorem seq_inv {K : PySem.W.Frag} {as : As} {H : Hp} {v : V} {d : D} {b : Bool} {xs : List PyData} (r : RD K as H v d) (e : sqD d = some (b, xs)) : ∃ l vs, v = .ref l /\ (∀ as2 H2, Step0 as H as2 H2 -> SqB K b H2 l vs) /\ TDs as H vs xs := by
 cases d with
 | da d =>
  cases d with
  | list zs =>
   cases e
   obtain ⟨l, vs, rfl, n, q, t⟩ := r.lst_inv
   exact ⟨l, vs, rfl, fun as2 H2 st => SqL.of (st.keep _ _ n q), t⟩
  | tuple zs =>
   cases e
   cases r with
   | da t => cases t with
    | tup n q t => exact ⟨_, _, rfl, fun as2 H2 st => SqT.of (st.keep _ _ n q), t⟩
  | _ => cases e
 | _ => cases e
theorem ri_zipB {es : List Expr} {x1 : Nat} {tp : Pos} {a b : Expr} {f : FA} {p pos : Pos} (hm : X.mg "zip" = none) (h : RA X [a, b] f) (hg : Gl X "zip" := by rfl) (hs : starEach [a, b] X.env = [(false, eval a X.env), (false, eval b X.env)] := by rfl) (hs2 : starEach [b] X.env = [(false, eval b X.env)] := by rfl) :
  RI X (.Tuple es x1 tp) (.Call (.Name "zip" p) [a, b] [] pos) (fZipB f) := by
 obtain ⟨t, pa, ra⟩ := h.ex
 refine ⟨_, pi_zipB hg hm pa hs hs2, fun as σ H ρ s Q rl en h => ?_⟩
 refine ra as σ H ρ s _ rl en (Dn.bind h fun ds s1 as1 H1 vs st1 rl1 r1 h1 => ?_)
 unfold gZipB at h1
 split at h1
 ·split at h1
  ·rename_i da db _ xd bx _ yd ea eb
   obtain ⟨v, w, rfl, rv, rw⟩ := r1.two
   obtain ⟨l1, xs, rfl, k1, t1⟩ := seq_inv rv ea
   obtain ⟨l2, ys, rfl, k2, t2⟩ := seq_inv rw eb
   refine ⟨l1, l2, xs, ys, _, _, rfl, k1 as1 H1 (Step.refl _ _).toStep0, k2 as1 H1 (Step.refl _ _).toStep0, Dn.now (Q := Q) h1 rl1 ?_⟩
   intro as2 H2 s2 st2 rl2 _ i
   have sq1 := k1 as2 H2 st2
   have sq2 := k2 as2 H2 st2
   have u1 := t1.mono0 st2
   have u2 := t2.mono0 st2
   refine ⟨fun hl => ⟨xs, ys, sq1, sq2, ?_⟩, fun d hd => ?_⟩
   ·simp only [List.length_map, List.length_zip] at hl
    rw [u1.length, u2.length]
    omega
   ·rw [List.getElem?_map] at hd
    cases q : (List.zip _ _)[i]? with
    | none => rw [q] at hd; cases hd
    | some pr =>
     rw [q] at hd
     cases hd
     rw [List.getElem?_zip_eq_some] at q
     obtain ⟨x, hx, rx⟩ := u1.get q.1
     obtain ⟨y, hy, ry⟩ := u2.get q.2
     refine ⟨⟨xs, ys, x, y, sq1, sq2, hx, hy⟩, fun vv H3 hv => ?_⟩
     obtain ⟨T, rfl, hT⟩ := hv
     obtain ⟨x', y', hx', hy', nw⟩ := hT xs ys sq1 sq2
     rw [hx] at hx'; cases hx'
     rw [hy] at hy'; cases hy'
     exact ⟨step_new nw, rl2.new nw, .da (.tup (fun z => rl2.has z nw.no) nw.at (.cons (rx.mono (step_new nw)) (.cons (ry.mono (step_new nw)) .nil)))⟩
  ·exact h1.elim
 ·exact h1.elim
def gReverse : GM := fun d ds s => match ds with
 | [] => onL d s fun n xs => .ok .non (s.set n (.lst xs.reverse))
 | _ => .bad
theorem RDs.rev {K : PySem.W.Frag} {as : As} {H : Hp} : ∀ {vs : List V} {ds : List D}, RDs K as H vs ds -> RDs K as H vs.reverse ds.reverse
 | _, _, .nil => .nil
 | _, _, .cons a r => by
  (rw [List.reverse_cons, List.reverse_cons])
  exact (RDs.rev r).append (.cons a .nil)
theorem m_reverse : MB X "list.reverse" gReverse := ⟨_, mt_reverse, fun as H s x xs d ds Q rl r rs h => by
 unfold gReverse at h
 split at h
 ·cases rs
  obtain ⟨p, n, ys, es, rfl, ha, hy, re, h⟩ := onL_ok rl r h
  exact ⟨p, ys, rfl, rfl, hy, chg_ok (o := .lst []) rl ha ⟨rfl⟩ re.rev (.da .non) h⟩
 ·exact h.elim⟩
end
end PF
namespace PF
open PySem PySem.Spec L2
theorem u70 {A : Around} {k : Nat} (hr : Room k A) : A.units + 70 < cLine := by have := hr.un; omega
end PF
namespace PF
open PySem PySem.Spec
open L2
section
variable {s : S} {m : Bool} {n : Nat} {x y : Str} {b : Bool} {xs ys : List PyData} {ds es : List D} {d e v o : D} {ρ : En} {kvs : List (PyData × D)} {k : PyData}
def kS21 (g : D -> D -> D -> S -> R D) (fo fi : FE) (ρ : En) (v : D) (s : S) : R Fl := (fo ρ s).bind fun o s2 => (fi ρ s2).bind fun i s3 => (g o i v s3).bind fun _ s4 => .ok (.nx ρ) s4
def kS22 (g : D -> D -> D -> S -> R D) (fi : FE) (ρ : En) (v o : D) (s : S) : R Fl := (fi ρ s).bind fun i s3 => (g o i v s3).bind fun _ s4 => .ok (.nx ρ) s4
def kS23 (g : D -> D -> D -> S -> R D) (ρ : En) (v o i : D) (s : S) : R Fl := (g o i v s).bind fun _ s4 => .ok (.nx ρ) s4
theorem e_s2 {g : D -> D -> D -> S -> R D} {fv fo fi : FE} : fSetIt2 g fv fo fi ρ s = (fv ρ s).bind (kS21 g fo fi ρ) := (rfl)
theorem e_s21 {g : D -> D -> D -> S -> R D} {fo fi : FE} : kS21 g fo fi ρ v s = (fo ρ s).bind (kS22 g fi ρ v) := (rfl)
theorem e_s22 {g : D -> D -> D -> S -> R D} {fi : FE} : kS22 g fi ρ v o s = (fi ρ s).bind (kS23 g ρ v o) := (rfl)
theorem e_s23 {g : D -> D -> D -> S -> R D} : kS23 g ρ v o d s = (g o d v s).bind (kDrop ρ) := (rfl)
def kMd1 (g : GM) (fa : FA) (ρ : En) (d : D) (s : S) : R D := onD d s fun _ _ => (fa ρ s).bind fun ds s2 => g d ds s2
theorem e_md {g : GM} {fo : FE} {fa : FA} : fMd g fo fa ρ s = (fo ρ s).bind (kMd1 g fa ρ) := (rfl)
theorem onD_ref {α : Type} {f : Nat -> List (PyData × D) -> R α} (h : s[n]? = some (.dct kvs)) : onD (.ref n) s f = f n kvs := by
 show (match s[n]? with | some (O.dct kvs) => f n kvs | _ => .bad) = _
 rw [h]
theorem e_md1 {g : GM} {fa : FA} (h : s[n]? = some (.dct kvs)) : kMd1 g fa ρ (.ref n) s = (fa ρ s).bind (kMt2 g (.ref n)) := onD_ref h
theorem dset_ref (h : s[n]? = some (.dct kvs)) (hk : kSame kvs k = true) (hl : kvs.length < 16777216) : gSet2 (.ref n) (.da k) v s = .ok .non (s.set n (.dct (dPut kvs k v))) := by
 have e : gSet2 (.ref n) (.da k) v s = gDset (.ref n) (.da k) v s := by unfold gSet2; simp only [h]
 rw [e]
 unfold gDset
 rw [onD_ref h]
 exact if_pos ⟨hk, by rw [sizeLine_eq']; exact hl⟩
theorem in2_ref (h : s[n]? = some (.dct kvs)) (hk : kSame kvs k = true) : gIn2 false (.da k) (.ref n) s = .ok (.bl (dGet kvs k).isSome) s := by
 have e : gIn2 false (.da k) (.ref n) s = gDin false (.da k) (.ref n) s := by unfold gIn2; simp only [h]
 rw [e]
 unfold gDin
 rw [onD_ref h]
 exact if_pos hk
theorem dget2_ref (h : s[n]? = some (.dct kvs)) (hk : kSame kvs k = true) : gDget (.ref n) [.da k, d] s = .ok ((dGet kvs k).getD d) s := by
 unfold gDget
 simp only []
 rw [onD_ref h]
 exact if_pos hk
theorem dctD_ref (h : s[n]? = some (.dct kvs)) : dctD s (.ref n) = some kvs := by
 show (match s[n]? with | some (O.dct kvs) => some kvs | _ => none) = _
 rw [h]
theorem list2_new (h : s[n]? = some (.dct kvs)) : gList2 true [.ref n] s = .ok (.ref s.length) (s ++ [.lst ((kvs.map (·.1)).map D.da)]) := by
 show (match dctD s (.ref n) with | some (kvs : List (PyData × D)) => newL true (kvs.map fun e : PyData × D => D.da e.1) s | none => gList true [.ref n] s) = _
 rw [dctD_ref h, ← keys_map]; rfl
theorem list2_da (h : s[n]? = some (.dct kvs)) : gList2 false [.ref n] s = .ok (.lst (kvs.map (·.1))) s := by
 show (match dctD s (.ref n) with | some (kvs : List (PyData × D)) => newL false (kvs.map fun e : PyData × D => D.da e.1) s | none => gList false [.ref n] s) = _
 rw [dctD_ref h]
 show newL false (kvs.map fun e : PyData × D => D.da e.1) s = _
 rw [keys_map]
 exact e_newF
theorem e_dct0 : fDct0 ρ s = .ok (.ref s.length) (s ++ [.dct []]) := (rfl)
noncomputable def kDp (n : Nat) (ps : List (D × D)) (s : S) : R D := (putAll n ps s).bind fun _ s2 => .ok (.ref n) s2
def kP1 (fv : FE) (r : FP) (ρ : En) (k : D) (s : S) : R (List (D × D)) := (fv ρ s).bind fun v s2 => (r ρ s2).bind fun ps s3 => .ok ((k, v) :: ps) s3
def kP2 (r : FP) (ρ : En) (k v : D) (s : S) : R (List (D × D)) := (r ρ s).bind fun ps s3 => .ok ((k, v) :: ps) s3
def kP3 (k v : D) (ps : List (D × D)) (s : S) : R (List (D × D)) := .ok ((k, v) :: ps) s
theorem e_dctP {f : FP} : fDctP f ρ s = (f ρ (s ++ [.dct []])).bind (kDp s.length) := (rfl)
theorem e_pcons {fk fv : FE} {r : FP} : fpCons fk fv r ρ s = (fk ρ s).bind (kP1 fv r ρ) := (rfl)
theorem e_p1 {fv : FE} {r : FP} : kP1 fv r ρ d s = (fv ρ s).bind (kP2 r ρ d) := (rfl)
theorem e_p2 {r : FP} : kP2 r ρ d e s = (r ρ s).bind (kP3 d e) := (rfl)
theorem e_p3 {ps : List (D × D)} : kP3 d e ps s = .ok ((d, e) :: ps) s := (rfl)
theorem e_pnil : fpNil ρ s = .ok [] s := (rfl)
theorem e_zipB {f : FA} : fZipB f ρ s = (f ρ s).bind gZipB := (rfl)
theorem zipB_tt : gZipB [.tup xs, .tup ys] s = .ok ((xs.zip ys).map fun p => D.tup [p.1, p.2], none) s := (rfl)
theorem reverse_ok (h : s[n]? = some (.lst ds)) : gReverse (.ref n) [] s = .ok .non (s.set n (.lst ds.reverse)) := by
 show (match s[n]? with | some (O.lst xs) => R.ok D.non (s.set n (.lst xs.reverse)) | _ => .bad) = _
 rw [h]
theorem sorted_lst (h1 : xs.length < 64) (h2 : cmpb xs = true) (h3 : xs.all okD = true) : gSorted false [.lst xs] s = .ok (.lst (srtD xs)) s := by
 show (match (some (xs.map D.da)).bind pures with | some xs => if xs.length < 64 /\ cmpb xs = true /\ xs.all okD = true then newL false ((srtD xs).map D.da) s else .bad | none => .bad) = _
 show (match pures (xs.map D.da) with | some xs => if xs.length < 64 /\ cmpb xs = true /\ xs.all okD = true then newL false ((srtD xs).map D.da) s else .bad | none => .bad) = _
 rw [pures_da]
 show (if xs.length < 64 /\ cmpb xs = true /\ xs.all okD = true then newL false ((srtD xs).map D.da) s else .bad) = _
 rw [if_pos ⟨h1, h2, h3⟩]
 exact e_newF
theorem sorted_ref (h : s[n]? = some (.lst (xs.map D.da))) (h1 : xs.length < 64) (h2 : cmpb xs = true) (h3 : xs.all okD = true) : gSorted false [.ref n] s = .ok (.lst (srtD xs)) s := by
 show (match (match s[n]? with | some (O.lst ds) => some ds | _ => none).bind pures with | some xs => if xs.length < 64 /\ cmpb xs = true /\ xs.all okD = true then newL false ((srtD xs).map D.da) s else .bad | none => .bad) = _
 rw [h]
 show (match pures (xs.map D.da) with | some xs => if xs.length < 64 /\ cmpb xs = true /\ xs.all okD = true then newL false ((srtD xs).map D.da) s else .bad | none => .bad) = _
 rw [pures_da]
 show (if xs.length < 64 /\ cmpb xs = true /\ xs.all okD = true then newL false ((srtD xs).map D.da) s else .bad) = _
 rw [if_pos ⟨h1, h2, h3⟩]
 exact e_newF
theorem tuple_ref (h : s[n]? = some (.lst (xs.map D.da))) : gTuple [.ref n] s = .ok (.tup xs) s := by
 show (match (match s[n]? with | some (O.lst ds) => some ds | _ => none) with | some xs => newT xs s | none => .bad) = _
 rw [h]
 show (match pures (xs.map D.da) with | some xs => R.ok (D.tup xs) s | none => .bad) = _
 rw [pures_da]
theorem it_ref (h : s[n]? = some (.lst ds)) : gIter (.ref n) s = .ok (ds, some n) s := by
 show (match s[n]? with | some (O.lst ds) => R.ok (ds, some n) s | _ => .bad) = _
 rw [h]
theorem toP_ref (h : s[n]? = some (.lst (xs.map D.da))) : toP s (.ref n) = some (.list xs) := by
 show (match s[n]? with | some (O.lst ds) => (pures ds).map PyData.list | _ => none) = _
 rw [h]
 show (pures (xs.map D.da)).map PyData.list = _
 rw [pures_da]; rfl
end
noncomputable def addK (ks : List PyData) (k : PyData) : List PyData := if k ∈ ks then ks else ks ++ [k]
theorem put_keys {α : Type} (kvs : List (PyData × α)) (k : PyData) (v : α) : (dPut kvs k v).map (·.1) = addK (kvs.map (·.1)) k := by
 unfold dPut addK
 have e : (kvs.any fun e => decide (e.1 = k)) = decide (k ∈ kvs.map (·.1)) := by
  rw [Bool.eq_iff_iff, List.any_eq_true, decide_eq_true_eq, List.mem_map]
  constructor
  ·rintro ⟨x, hx, h⟩; exact ⟨x, hx, of_decide_eq_true h⟩
  ·rintro ⟨x, hx, h⟩; exact ⟨x, hx, decide_eq_true h⟩
 rw [e]
 by_cases c : k ∈ kvs.map (·.1)
 ·rw [if_pos (decide_eq_true c), if_pos c, List.map_map]
  (refine List.map_congr_left fun x _ => ?_)
  show (if x.1 = k then (x.1, v) else x).1 = x.1
  split <;> rfl
 ·rw [if_neg (fun h => c (of_decide_eq_true h)), if_neg c, List.map_append]; rfl
theorem get_put {α : Type} (kvs : List (PyData × α)) (k j : PyData) (v : α) : dGet (dPut kvs k v) j = if k = j then some v else dGet kvs j := by
 unfold dPut
 split
 ·rename_i c
  induction kvs with
  | nil => simp at c
  | cons x r ih =>
   by_cases hx : x.1 = k
   ·by_cases hj : k = j
    ·subst hj
     rw [if_pos rfl]
     simp [dGet, hx]
    ·have hxj : x.1 ≠ j := fun z => hj (hx.symm.trans z)
     rw [if_neg hj]
     by_cases hr : (r.any fun e => decide (e.1 = k)) = true
     ·have := ih hr
      rw [if_neg hj] at this
      simp only [List.map_cons, if_pos hx]
      unfold dGet at this ⊢
      rw [List.find?_cons_of_neg (by simpa using hxj), List.find?_cons_of_neg (by simpa using hxj)]
      exact this
     ·have e2 : r.map (fun e => if e.1 = k then (e.1, v) else e) = r := by
       refine (List.map_congr_left fun y hy => ?_).trans (List.map_id _)
       have : ¬ y.1 = k := fun z => hr (List.any_eq_true.mpr ⟨y, hy, decide_eq_true z⟩)
       rw [if_neg this]; rfl
      simp only [List.map_cons, if_pos hx, e2]
      unfold dGet
      rw [List.find?_cons_of_neg (by simpa using hxj), List.find?_cons_of_neg (by simpa using hxj)]
   ·have hr : (r.any fun e => decide (e.1 = k)) = true := by
     rw [List.any_cons, decide_eq_false hx, Bool.false_or] at c; exact c
    have := ih hr
    simp only [List.map_cons, if_neg hx]
    unfold dGet at this ⊢
    by_cases hxj : x.1 = j
    ·have hkj : ¬ k = j := fun z => hx (hxj.trans z.symm)
     rw [if_neg hkj, List.find?_cons_of_pos (by simpa using hxj), List.find?_cons_of_pos (by simpa using hxj)]
    ·rw [List.find?_cons_of_neg (by simpa using hxj), List.find?_cons_of_neg (by simpa using hxj)]
     exact this
 ·rename_i c
  have hn : ∀ y ∈ kvs, y.1 ≠ k := fun y hy z => c (List.any_eq_true.mpr ⟨y, hy, decide_eq_true z⟩)
  unfold dGet
  rw [List.find?_append]
  by_cases hj : k = j
  ·subst hj
   rw [if_pos rfl, List.find?_eq_none.mpr fun y hy => by simpa using hn y hy]
   simp
  ·rw [if_neg hj]
   cases e : kvs.find? fun e => decide (e.1 = j) with
   | some y => rfl
   | none => simp [hj]
noncomputable def kLc2 (m : Bool) (js : List Nat) (k : Nat) (g : Tg) (ft : FT) (fi2 : FI) (g2 : Tg) (ft2 : FT) (fe : FE) (ρ : En) (p : Wk) (s : S) : R D := chk p s ((comp2F g g2 ft fi2 ft2 fe (List.replicate k none ++ capD ρ js) p p.1 s).bind (finL m))
theorem e_lc2 {m : Bool} {js : List Nat} {k : Nat} {fi fi2 : FI} {g g2 : Tg} {ft ft2 : FT} {fe : FE} {ρ : En} {s : S} : fLc2 m js k fi g ft fi2 g2 ft2 fe ρ s = (fi ρ s).bind (kLc2 m js k g ft fi2 g2 ft2 fe ρ) := (rfl)
theorem e_lc21 {m : Bool} {js : List Nat} {k : Nat} {fi2 : FI} {g g2 : Tg} {ft ft2 : FT} {fe : FE} {ρ ρ0 : En} {s : S} {ds : List D} (e : List.replicate k none ++ capD ρ js = ρ0) : kLc2 m js k g ft fi2 g2 ft2 fe ρ (ds, none) s = (comp2F g g2 ft fi2 ft2 fe ρ0 (ds, none) ds s).bind (finL m) := by
 subst e; exact chk_none
theorem finL_da {xs : List PyData} {s : S} (h : xs.length <= 16777216) : finL false (xs.map D.da) s = .ok (.lst xs) s := by
 unfold finL
 rw [if_pos (by rw [sizeLine_eq', List.length_map]; exact h)]
 exact e_newF
theorem comp2_inv {g g2 : Tg} {ft ft2 : FT} {fi2 : FI} {fe : FE} {ρ0 : En} {all : List D} {Q : List D -> S -> Prop} (J : List D -> List D -> S -> Prop)
  (step : ∀ d r acc s, J (d :: r) acc s -> ∃ ρ1, setD g d ρ0 = some ρ1 /\ tgNone g2 ρ1 = true /\ (ft ρ1 s).W fun b s2 => if b = true then (fi2 ρ1 s2).W fun p2 s3 => p2.2 = none /\ (compF g2 ft2 fe ρ1 p2 p2.1 s3).W fun xs s4 => J r (acc ++ xs) s4 else J r acc s2) (fin : ∀ acc s, J [] acc s -> Q acc s) :
  ∀ (ds acc : List D) (s : S), J ds acc s -> (comp2F g g2 ft fi2 ft2 fe ρ0 (all, none) ds s).W fun xs s' => Q (acc ++ xs) s'
 | [], acc, s, h => by
  show R.W (.ok [] s) _
  rw [R.W_ok, List.append_nil]
  exact fin acc s h
 | d :: r, acc, s, h => by
  obtain ⟨ρ1, e, tn, w⟩ := step d r acc s h
  rw [comp2F, e]
  show R.W ((ft ρ1 s).bind _) _
  rw [R.W_bind]
  refine R.W_mono w fun b s1 q => ?_
  cases b with
  | false =>
   rw [if_neg Bool.false_ne_true] at q ⊢
   rw [chk_none]
   exact comp2_inv J step fin r acc s1 q
  | true =>
   rw [if_pos rfl] at q ⊢
   rw [R.W_bind]
   refine R.W_mono q fun p2 s2 q2 => ?_
   obtain ⟨hp, q2⟩ := q2
   obtain ⟨p21, p22⟩ := p2
   have hp : p22 = none := hp
   subst hp
   rw [if_pos tn, chk_none, R.W_bind]
   refine R.W_mono q2 fun xs s3 q3 => ?_
   rw [chk_none, R.W_bind]
   refine R.W_mono (comp2_inv J step fin r (acc ++ xs) s3 q3) fun ys s4 q4 => ?_
   rw [R.W_ok]
   rw [List.append_assoc] at q4
   exact q4
theorem comp_da {g : Tg} {ft : FT} {fe : FE} {ρ0 : En} {all : List D} {s : S} {α : Type} (c : α -> D) (p : α -> Bool) (f : α -> PyData) : ∀ (l : List α), (∀ a ∈ l, ∃ ρ1, setD g (c a) ρ0 = some ρ1 /\ ft ρ1 s = .ok (p a) s /\ (p a = true -> fe ρ1 s = .ok (.da (f a)) s)) ->
  compF g ft fe ρ0 (all, none) (l.map c) s = .ok (((l.filter p).map f).map D.da) s
 | [], _ => rfl
 | a :: r, h => by
  obtain ⟨ρ1, e, e1, e2⟩ := h a List.mem_cons_self
  have ih := comp_da (all := all) c p f r fun b hb => h b (List.mem_cons_of_mem _ hb)
  rw [List.map_cons, comp_cons e, e1, R.bind_ok]
  cases hp : p a with
  | false =>
   rw [comp_f, ih, List.filter_cons_of_neg (by simp [hp])]
  | true =>
   rw [comp_t, e2 hp, R.bind_ok, comp_x, ih, R.bind_ok, e_cons2, List.filter_cons_of_pos hp]
   rfl
end PF
namespace Ln
open PySem L2 PF
def top (i : Nat) : Stmt := PySem.Challenge.pw_mannerports_k26_moves_told.main.body.getD i (.Pass ⟨0, 0, 0, 0⟩)
abbrev s_moves_from : Stmt := top 1
abbrev s_things_for : Stmt := top 2
abbrev s_doings : Stmt := top 3
abbrev s_moment_of : Stmt := top 4
abbrev s_stand_by : Stmt := top 5
abbrev s_moves_by : Stmt := top 6
abbrev s__law_tape : Stmt := top 8
abbrev s__law_draw : Stmt := top 9
abbrev s__law_names : Stmt := top 10
abbrev s__law_told : Stmt := top 11
abbrev s__law_step : Stmt := top 12
abbrev s__law_machine : Stmt := top 13
abbrev s__law_doings : Stmt := top 14
abbrev s__law_done : Stmt := top 15
abbrev s__law_moves : Stmt := top 16
abbrev s__law_right : Stmt := top 17
abbrev s__law_any_stand : Stmt := top 18
abbrev s_law : Stmt := top 19
structure Txt0 (K : PySem.W.Frag) (mg : Str -> Option Value) : Prop where
 h_moves_from : Has K mg "moves_from" s_moves_from ["machine", "stand"]
 h_things_for : Has K mg "things_for" s_things_for ["tie", "held", "passing"]
 h_doings : Has K mg "doings" s_doings ["step", "held", "passing"]
 h_moment_of : Has K mg "moment_of" s_moment_of ["step", "way"]
 h_stand_by : Has K mg "stand_by" s_stand_by ["step", "held", "way"]
 h_moves_by : Has K mg "moves_by" s_moves_by ["steps", "stand"]
 h__law_tape : Has K mg "_law_tape" s__law_tape ["_law_script"]
 h__law_draw : Has K mg "_law_draw" s__law_draw ["_law_tape_here", "_law_many"]
 h__law_names : Has K mg "_law_names" s__law_names ["_law_tape_here", "_law_many"]
 h__law_told : Has K mg "_law_told" s__law_told ["_law_tape_here", "_law_things"]
 h__law_step : Has K mg "_law_step" s__law_step ["_law_tape_here", "_law_things", "_law_ports", "_law_boxes", "_law_places"]
 h__law_machine : Has K mg "_law_machine" s__law_machine ["_law_tape_here", "_law_things", "_law_ports", "_law_most"]
 h__law_doings : Has K mg "_law_doings" s__law_doings ["_law_ties", "_law_held"]
 h__law_done : Has K mg "_law_done" s__law_done ["_law_step_here", "_law_held", "_law_things"]
 h__law_moves : Has K mg "_law_moves" s__law_moves ["_law_machine_here", "_law_stand"]
 h__law_right : Has K mg "_law_right" s__law_right ["_law_machine_here", "_law_stand"]
 h__law_any_stand : Has K mg "_law_any_stand" s__law_any_stand ["_law_tape_here", "_law_machine_here"]
 h_law : Has K mg "law" s_law ["_law_script"]
 n_len : mg "len" = none
 n_repr : mg "repr" = none
 n_sorted : mg "sorted" = none
 n_list : mg "list" = none
 n_tuple : mg "tuple" = none
 n_range : mg "range" = none
 n_isinstance : mg "isinstance" = none
 n_zip : mg "zip" = none
end Ln
namespace Ln
open PySem L2 PF
noncomputable def Bthings_for : FS :=
  (fSeq (fAsg (.t2 (.nm 3) (.nm 4)) (fVar 0))
  (fSeq (fFor (fIt (fVar 3)) (.t2 (.nm 5) (.nm 6)) (fIfS (fTest (fOp gEq (fVar 5) (fC (.da (.str "box"))))) (fSet 4 (fLc false [1, 6] 1 (fIt (fVar 4)) (.nm 0) (fTest (fOp gEq (fVar 0) (fOp gIx (fVar 1) (fVar 2)))) (fVar 0))) (fIfS (fAndT (fTest (fOp gEq (fVar 5) (fC (.da (.str "port"))))) (fTest (fOp (gIn2 false) (fVar 6) (fVar 2)))) (fSet 4 (fLc false [2, 6] 1 (fIt (fVar 4)) (.nm 0) (fTest (fOp gEq (fVar 0) (fOp gIx2 (fVar 1) (fVar 2)))) (fVar 0))) fNext)))
  (fRet (fVar 4))))
noncomputable def Fthings_for : FF := bodyF 7 Bthings_for
theorem ethings_for {a0 a1 a2 : D} {s : S} : Fthings_for [a0, a1, a2] s = (Bthings_for [some a0, some a1, some a2, none, none, none, none] s).bind kBody := rfl
theorem scthings_for : FnScope ["tie", "held", "passing", "spots", "left", "word", "at"] ["tie", "held", "passing"] (defScope s_things_for) := ⟨rfl, rfl, rfl, by decide +kernel, rfl, by decide +kernel, by decide +kernel⟩
section
variable {P : Program} {w : World} {K : PySem.W.Frag} {mg : Str -> Option Value} {base : Heap}
theorem okthings_for (T : Txt0 K mg) : CalF P w K mg base "things_for" 1 3 Fthings_for := by
 exact calF (k := 0) T.h_things_for scthings_for rfl rfl (fun f cdv A outer s H E hr =>
   (rss_cons (rs_asg (re_var 0) (rg_t2 rfl (rg_name (i := 3) scthings_for.nd rfl (Or.inl rfl)) (rg_name (i := 4) scthings_for.nd rfl (Or.inl rfl))))
   (rss_cons (rs_for rfl (ri_any (re_var 3)) (rg_t2 rfl (rg_name (i := 5) scthings_for.nd rfl (Or.inl rfl)) (rg_name (i := 6) scthings_for.nd rfl (Or.inr rfl))) (rss_one (rs_if (rt_cmp (o_eq (u64 hr)) (re_var 5) re_str) (rss_one (rs_setLc false (own := ["thing"]) (caps := ["held", "at"]) (js := [1, 6]) (i := 4) rfl scthings_for.nd rfl rfl rfl rfl rfl rfl rfl (⟨⟨rfl, Or.inr (Or.inl rfl), rfl, rfl⟩, ⟨⟨rfl, Or.inr (Or.inl rfl), rfl, rfl⟩, trivial⟩⟩) rfl (ri_any (re_var 4)) (fun _ _ _ _ => (rg_name (i := 0) (show (["thing", "held", "at"] : List Str).Nodup by decide +kernel) rfl (Or.inl rfl) (Or.inr rfl))) (fun _ _ _ _ => (rifs_one (rt_cmp (o_eq (u64 hr)) (re_var 0) (re_ix (re_var 1) (re_var 2))))) (fun _ _ _ _ => (re_var 0)))) (rss_one (rs_if (RW.rt (rw_and (rt_cmp (o_eq (u64 hr)) (re_var 5) re_str) (rw_and1 (rt_cmp (o_in2 (u70 hr)) (re_var 6) (re_var 2))))) (rss_one (rs_setLc false (own := ["thing"]) (caps := ["passing", "at"]) (js := [2, 6]) (i := 4) rfl scthings_for.nd rfl rfl rfl rfl rfl rfl rfl (⟨⟨rfl, Or.inr (Or.inl rfl), rfl, rfl⟩, ⟨⟨rfl, Or.inr (Or.inl rfl), rfl, rfl⟩, trivial⟩⟩) rfl (ri_any (re_var 4)) (fun _ _ _ _ => (rg_name (i := 0) (show (["thing", "passing", "at"] : List Str).Nodup by decide +kernel) rfl (Or.inl rfl) (Or.inr rfl))) (fun _ _ _ _ => (rifs_one (rt_cmp (o_eq (u64 hr)) (re_var 0) (re_ix2 (ix_two (u70 hr)) (re_var 1) (re_var 2))))) (fun _ _ _ _ => (re_var 0)))) rss_nil)))))
   (rss_one (rs_ret (re_var 4))))))
end
end Ln
namespace Ln
open PySem L2 PF
noncomputable def Bdoings : FS :=
  (fSeq (fSet 3 (fLst true fNil))
  (fSeq (fFor (fIt (fOp gIx (fVar 0) (fC (.da (.int 2))))) (.nm 4) (fSeq (fSet 5 (fCall 3 Fthings_for (fCons (fVar 4) (fCons (fVar 1) (fCons (fVar 2) fNil)))))
  (fSeq (fIfS (fNotT (fTru (fVar 5))) (fRet (fLst false fNil)) fNext)
  (fDrop (fMt gAppend (fVar 3) (fCons (fVar 5) fNil))))))
  (fSeq (fSet 6 (fLst false (fCons (fTup fNil) fNil)))
  (fSeq (fFor (fIt (fVar 3)) (.nm 5) (fSet 6 (fLc2 false [5] 2 (fIt (fVar 6)) (.nm 0) fYes (fIt (fVar 2)) (.nm 1) fYes (fOp (gAdd false) (fVar 0) (fTup (fCons (fVar 1) fNil))))))
  (fRet (fVar 6))))))
noncomputable def Fdoings : FF := bodyF 7 Bdoings
theorem edoings {a0 a1 a2 : D} {s : S} : Fdoings [a0, a1, a2] s = (Bdoings [some a0, some a1, some a2, none, none, none, none] s).bind kBody := rfl
theorem scdoings : FnScope ["step", "held", "passing", "choices", "tie", "choice", "ways"] ["step", "held", "passing"] (defScope s_doings) := ⟨rfl, rfl, rfl, by decide +kernel, rfl, by decide +kernel, by decide +kernel⟩
section
variable {P : Program} {w : World} {K : PySem.W.Frag} {mg : Str -> Option Value} {base : Heap}
theorem okdoings (T : Txt0 K mg) : CalF P w K mg base "doings" 2 3 Fdoings := by
 have cthings_for := okthings_for (P := P) (w := w) (base := base) T
 exact calF (k := 1) T.h_doings scdoings rfl rfl (fun f cdv A outer s H E hr =>
   (rss_cons (rs_set (i := 3) scdoings.nd rfl (Or.inl rfl) (re_lst true ra_nil))
   (rss_cons (rs_for rfl (ri_any (re_ix (re_var 0) re_int)) (rg_name (i := 4) scdoings.nd rfl (Or.inl rfl)) (rss_cons (rs_set (i := 5) scdoings.nd rfl (Or.inr rfl) (re_c cthings_for (hr.mono (by decide)) (ra_cons (re_var 4) (ra_cons (re_var 1) (ra_cons (re_var 2) ra_nil)))))
   (rss_cons (rs_if (rt_not (rt_tru (re_var 5))) (rss_one (rs_ret (re_lst false ra_nil))) rss_nil)
   (rss_one (rs_expr (re_mt PySem.F.slot_list_append PySem.F.type_list_append m_append (re_var 3) (ra_cons (re_var 5) ra_nil)))))))
   (rss_cons (rs_set (i := 6) scdoings.nd rfl (Or.inl rfl) (re_lst false (ra_cons (re_tup ra_nil) ra_nil)))
   (rss_cons (rs_for rfl (ri_any (re_var 3)) (rg_name (i := 5) scdoings.nd rfl (Or.inr rfl)) (rss_one (rs_setLc2 false (own := ["way", "thing"]) (caps := ["choice"]) (js := [5]) (i := 6) rfl scdoings.nd rfl rfl rfl rfl rfl rfl rfl (⟨⟨rfl, Or.inr (Or.inl rfl), rfl, rfl⟩, trivial⟩) rfl rfl (ri_any (re_var 6)) (fun _ _ _ _ => (rg_name (i := 0) (show (["way", "thing", "choice"] : List Str).Nodup by decide +kernel) rfl (Or.inl rfl) (Or.inr rfl))) (fun _ _ _ _ => rifs_nil) (fun _ _ _ _ => (ri_any (re_var 2))) (fun _ _ _ _ => (rg_name (i := 1) (show (["way", "thing", "choice"] : List Str).Nodup by decide +kernel) rfl (Or.inl rfl) (Or.inr rfl))) (fun _ _ _ _ => rifs_nil) (fun _ _ _ _ => (re_op (o_add false) (re_var 0) (re_tup (ra_cons (re_var 1) ra_nil)))))))
   (rss_one (rs_ret (re_var 6))))))))
end
end Ln
namespace Ln
open PySem L2 PF
noncomputable def Bmoment_of : FS :=
  (fSeq (fSet 2 (fLst true fNil))
  (fSeq (fFor (fZipB (fCons (fOp gIx (fVar 0) (fC (.da (.int 2)))) (fCons (fVar 1) fNil))) (.t2 (.t2 (.nm 3) (.nm 4)) (.nm 5)) (fDrop (fMt gExtend (fVar 2) (fCons (fLc false [5] 2 (fIt (fVar 3)) (.t2 (.nm 0) (.nm 1)) (fTest (fOp gEq (fVar 0) (fC (.da (.str "port"))))) (fTup (fCons (fVar 1) (fCons (fVar 2) fNil)))) fNil))))
  (fRet (fCB gTuple (fCons (fCB (gSorted false) (fCons (fVar 2) fNil)) fNil)))))
noncomputable def Fmoment_of : FF := bodyF 6 Bmoment_of
theorem emoment_of {a0 a1 : D} {s : S} : Fmoment_of [a0, a1] s = (Bmoment_of [some a0, some a1, none, none, none, none] s).bind kBody := rfl
theorem scmoment_of : FnScope ["step", "way", "pairs", "spots", "told", "thing"] ["step", "way"] (defScope s_moment_of) := ⟨rfl, rfl, rfl, by decide +kernel, rfl, by decide +kernel, by decide +kernel⟩
section
variable {P : Program} {w : World} {K : PySem.W.Frag} {mg : Str -> Option Value} {base : Heap}
theorem okmoment_of (T : Txt0 K mg) : CalF P w K mg base "moment_of" 1 2 Fmoment_of := by
 exact calF (k := 0) T.h_moment_of scmoment_of rfl rfl (fun f cdv A outer s H E hr =>
   (rss_cons (rs_set (i := 2) scmoment_of.nd rfl (Or.inl rfl) (re_lst true ra_nil))
   (rss_cons (rs_for rfl (ri_zipB T.n_zip (ra_cons (re_ix (re_var 0) re_int) (ra_cons (re_var 1) ra_nil))) (rg_t2 rfl (rg_t2 rfl (rg_name (i := 3) scmoment_of.nd rfl (Or.inl rfl)) (rg_name (i := 4) scmoment_of.nd rfl (Or.inl rfl))) (rg_name (i := 5) scmoment_of.nd rfl (Or.inr rfl))) (rss_one (rs_expr (re_mt PySem.F.slot_list_extend PySem.F.type_list_extend m_extend (re_var 2) (ra_cons (re_lc false (own := ["word", "at"]) (caps := ["thing"]) (js := [5]) rfl rfl rfl rfl rfl (⟨⟨rfl, Or.inr (Or.inl rfl), rfl, rfl⟩, trivial⟩) rfl (ri_any (re_var 3)) (fun _ _ _ _ => (rg_t2 rfl (rg_name (i := 0) (show (["word", "at", "thing"] : List Str).Nodup by decide +kernel) rfl (Or.inl rfl) (Or.inr rfl)) (rg_name (i := 1) (show (["word", "at", "thing"] : List Str).Nodup by decide +kernel) rfl (Or.inl rfl) (Or.inr rfl)))) (fun _ _ _ _ => (rifs_one (rt_cmp (o_eq (u64 hr)) (re_var 0) re_str))) (fun _ _ _ _ => (re_tup (ra_cons (re_var 1) (ra_cons (re_var 2) ra_nil))))) ra_nil)))))
   (rss_one (rs_ret (re_ct c_tuple T.n_tuple b_tuple (ra_cons (re_cb (c_sorted false (u70 hr)) T.n_sorted b_sorted (ra_cons (re_var 2) ra_nil)) ra_nil)))))))
end
end Ln
namespace Ln
open PySem L2 PF
noncomputable def Bstand_by : FS :=
  (fSeq (fSet 3 (fCB (gList true) (fCons (fVar 1) fNil)))
  (fSeq (fFor (fIt (fOp gIx (fVar 0) (fC (.da (.int 2))))) (.t2 (.nm 4) (.nm 5)) (fFor (fIt (fVar 4)) (.t2 (.nm 6) (.nm 7)) (fIfS (fTest (fOp gEq (fVar 6) (fC (.da (.str "box"))))) (fSetIt (fC (.da (.none))) (fVar 3) (fVar 7)) fNext)))
  (fSeq (fFor (fZipB (fCons (fOp gIx (fVar 0) (fC (.da (.int 2)))) (fCons (fVar 2) fNil))) (.t2 (.t2 (.nm 4) (.nm 5)) (.nm 8)) (fFor (fIt (fVar 4)) (.t2 (.nm 6) (.nm 7)) (fIfS (fTest (fOp gEq (fVar 6) (fC (.da (.str "next"))))) (fSetIt (fVar 8) (fVar 3) (fVar 7)) fNext)))
  (fRet (fTup (fCons (fOp gIx (fVar 0) (fC (.da (.int 3)))) (fCons (fCB gTuple (fCons (fVar 3) fNil)) fNil)))))))
noncomputable def Fstand_by : FF := bodyF 9 Bstand_by
theorem estand_by {a0 a1 a2 : D} {s : S} : Fstand_by [a0, a1, a2] s = (Bstand_by [some a0, some a1, some a2, none, none, none, none, none, none] s).bind kBody := rfl
theorem scstand_by : FnScope ["step", "held", "way", "behind", "spots", "told", "word", "at", "thing"] ["step", "held", "way"] (defScope s_stand_by) := ⟨rfl, rfl, rfl, by decide +kernel, rfl, by decide +kernel, by decide +kernel⟩
section
variable {P : Program} {w : World} {K : PySem.W.Frag} {mg : Str -> Option Value} {base : Heap}
theorem okstand_by (T : Txt0 K mg) : CalF P w K mg base "stand_by" 1 3 Fstand_by := by
 exact calF (k := 0) T.h_stand_by scstand_by rfl rfl (fun f cdv A outer s H E hr =>
   (rss_cons (rs_set (i := 3) scstand_by.nd rfl (Or.inl rfl) (re_ct (c_list true) T.n_list b_list (ra_cons (re_var 1) ra_nil)))
   (rss_cons (rs_for rfl (ri_any (re_ix (re_var 0) re_int)) (rg_t2 rfl (rg_name (i := 4) scstand_by.nd rfl (Or.inl rfl)) (rg_name (i := 5) scstand_by.nd rfl (Or.inl rfl))) (rss_one (rs_for rfl (ri_any (re_var 4)) (rg_t2 rfl (rg_name (i := 6) scstand_by.nd rfl (Or.inl rfl)) (rg_name (i := 7) scstand_by.nd rfl (Or.inl rfl))) (rss_one (rs_if (rt_cmp (o_eq (u64 hr)) (re_var 6) re_str) (rss_one (rs_sub re_non (re_var 3) (re_var 7))) rss_nil)))))
   (rss_cons (rs_for rfl (ri_zipB T.n_zip (ra_cons (re_ix (re_var 0) re_int) (ra_cons (re_var 2) ra_nil))) (rg_t2 rfl (rg_t2 rfl (rg_name (i := 4) scstand_by.nd rfl (Or.inl rfl)) (rg_name (i := 5) scstand_by.nd rfl (Or.inl rfl))) (rg_name (i := 8) scstand_by.nd rfl (Or.inl rfl))) (rss_one (rs_for rfl (ri_any (re_var 4)) (rg_t2 rfl (rg_name (i := 6) scstand_by.nd rfl (Or.inl rfl)) (rg_name (i := 7) scstand_by.nd rfl (Or.inl rfl))) (rss_one (rs_if (rt_cmp (o_eq (u64 hr)) (re_var 6) re_str) (rss_one (rs_sub (re_var 8) (re_var 3) (re_var 7))) rss_nil)))))
   (rss_one (rs_ret (re_tup (ra_cons (re_ix (re_var 0) re_int) (ra_cons (re_ct c_tuple T.n_tuple b_tuple (ra_cons (re_var 3) ra_nil)) ra_nil)))))))))
end
end Ln
namespace Ln
open PySem L2 PF
noncomputable def Bmoves_by : FS :=
  (fSeq (fSet 2 (fOp gIx (fVar 1) (fC (.da (.int 1)))))
  (fSeq (fSet 3 (fDctP (fpCons (fTup (fCons (fTup fNil) (fCons (fVar 1) fNil))) (fC (.da (.bool true))) fpNil)))
  (fSeq (fFor (fIt (fVar 0)) (.nm 4) (fFor (fIt (fCall 3 Fdoings (fCons (fVar 4) (fCons (fVar 2) (fCons fDct0 fNil))))) (.nm 5) (fSetIt2 gSet2 (fC (.da (.bool true))) (fVar 3) (fTup (fCons (fCall 2 Fmoment_of (fCons (fVar 4) (fCons (fVar 5) fNil))) (fCons (fCall 3 Fstand_by (fCons (fVar 4) (fCons (fVar 2) (fCons (fVar 5) fNil)))) fNil))))))
  (fRet (fCB (gList2 true) (fCons (fVar 3) fNil))))))
noncomputable def Fmoves_by : FF := bodyF 6 Bmoves_by
theorem emoves_by {a0 a1 : D} {s : S} : Fmoves_by [a0, a1] s = (Bmoves_by [some a0, some a1, none, none, none, none] s).bind kBody := rfl
theorem scmoves_by : FnScope ["steps", "stand", "held", "moves", "step", "way"] ["steps", "stand"] (defScope s_moves_by) := ⟨rfl, rfl, rfl, by decide +kernel, rfl, by decide +kernel, by decide +kernel⟩
section
variable {P : Program} {w : World} {K : PySem.W.Frag} {mg : Str -> Option Value} {base : Heap}
theorem okmoves_by (T : Txt0 K mg) : CalF P w K mg base "moves_by" 3 2 Fmoves_by := by
 have cdoings := okdoings (P := P) (w := w) (base := base) T
 have cmoment_of := okmoment_of (P := P) (w := w) (base := base) T
 have cstand_by := okstand_by (P := P) (w := w) (base := base) T
 exact calF (k := 2) T.h_moves_by scmoves_by rfl rfl (fun f cdv A outer s H E hr =>
   (rss_cons (rs_set (i := 2) scmoves_by.nd rfl (Or.inl rfl) (re_ix (re_var 1) re_int))
   (rss_cons (rs_set (i := 3) scmoves_by.nd rfl (Or.inl rfl) (re_dctP (u70 hr) (rp_cons (re_tup (ra_cons (re_tup ra_nil) (ra_cons (re_var 1) ra_nil))) re_bl rp_nil)))
   (rss_cons (rs_for rfl (ri_any (re_var 0)) (rg_name (i := 4) scmoves_by.nd rfl (Or.inl rfl)) (rss_one (rs_for rfl (ri_any (re_c cdoings (hr.mono (by decide)) (ra_cons (re_var 4) (ra_cons (re_var 2) (ra_cons re_dct0 ra_nil))))) (rg_name (i := 5) scmoves_by.nd rfl (Or.inl rfl)) (rss_one (rs_sub2 (set_two (u70 hr)) re_bl (re_var 3) (re_tup (ra_cons (re_c cmoment_of (hr.mono (by decide)) (ra_cons (re_var 4) (ra_cons (re_var 5) ra_nil))) (ra_cons (re_c cstand_by (hr.mono (by decide)) (ra_cons (re_var 4) (ra_cons (re_var 2) (ra_cons (re_var 5) ra_nil)))) ra_nil))))))))
   (rss_one (rs_ret (re_ct (c_list2 true hr.hd) T.n_list b_list (ra_cons (re_var 3) ra_nil))))))))
end
end Ln
namespace Ln
open PySem L2 PF
noncomputable def Bmoves_from : FS :=
  (fRet (fCall 2 Fmoves_by (fCons (fLc false [1] 1 (fIt (fOp gIx (fVar 0) (fC (.da (.int 4))))) (.nm 0) (fTest (fOp gEq (fOp gIx (fVar 0) (fC (.da (.int 0)))) (fOp gIx (fVar 1) (fC (.da (.int 0)))))) (fVar 0)) (fCons (fVar 1) fNil))))
noncomputable def Fmoves_from : FF := bodyF 2 Bmoves_from
theorem emoves_from {a0 a1 : D} {s : S} : Fmoves_from [a0, a1] s = (Bmoves_from [some a0, some a1] s).bind kBody := rfl
theorem scmoves_from : FnScope ["machine", "stand"] ["machine", "stand"] (defScope s_moves_from) := ⟨rfl, rfl, rfl, by decide +kernel, rfl, by decide +kernel, by decide +kernel⟩
section
variable {P : Program} {w : World} {K : PySem.W.Frag} {mg : Str -> Option Value} {base : Heap}
theorem okmoves_from (T : Txt0 K mg) : CalF P w K mg base "moves_from" 4 2 Fmoves_from := by
 have cmoves_by := okmoves_by (P := P) (w := w) (base := base) T
 exact calF (k := 3) T.h_moves_from scmoves_from rfl rfl (fun f cdv A outer s H E hr =>
   (rss_one (rs_ret (re_c cmoves_by (hr.mono (by decide)) (ra_cons (re_lc false (own := ["step"]) (caps := ["stand"]) (js := [1]) rfl rfl rfl rfl rfl (⟨⟨rfl, Or.inr (Or.inl rfl), rfl, rfl⟩, trivial⟩) rfl (ri_any (re_ix (re_var 0) re_int)) (fun _ _ _ _ => (rg_name (i := 0) (show (["step", "stand"] : List Str).Nodup by decide +kernel) rfl (Or.inl rfl) (Or.inr rfl))) (fun _ _ _ _ => (rifs_one (rt_cmp (o_eq (u64 hr)) (re_ix (re_var 0) re_int) (re_ix (re_var 1) re_int)))) (fun _ _ _ _ => (re_var 0))) (ra_cons (re_var 1) ra_nil))))))
end
end Ln
namespace Ln
open PySem L2 PF
noncomputable def B_law_tape : FS :=
  (fRet (fLst true (fCons (fSl false (fVar 0) fNo (fSome (fC (.da (.int 63))))) (fCons (fC (.da (.int 0))) (fCons (fC (.da (.int 0))) fNil)))))
noncomputable def F_law_tape : FF := bodyF 1 B_law_tape
theorem e_law_tape {a0 : D} {s : S} : F_law_tape [a0] s = (B_law_tape [some a0] s).bind kBody := rfl
theorem sc_law_tape : FnScope ["_law_script"] ["_law_script"] (defScope s__law_tape) := ⟨rfl, rfl, rfl, by decide +kernel, rfl, by decide +kernel, by decide +kernel⟩
section
variable {P : Program} {w : World} {K : PySem.W.Frag} {mg : Str -> Option Value} {base : Heap}
theorem ok_law_tape (T : Txt0 K mg) : CalF P w K mg base "_law_tape" 1 1 F_law_tape := by
 exact calF (k := 0) T.h__law_tape sc_law_tape rfl rfl (fun f cdv A outer s H E hr =>
   (rss_one (rs_ret (re_lst true (ra_cons (re_slice false (re_var 0) ro_none (ro_some re_int)) (ra_cons re_int (ra_cons re_int ra_nil)))))))
end
end Ln
namespace Ln
open PySem L2 PF
noncomputable def B_law_draw : FS :=
  (fSeq (fIfS (fTest (fOp gGt (fOp gIx (fVar 0) (fC (.da (.int 2)))) (fC (.da (.int 0))))) (fSeq (fSet 2 (fOp gMod (fOp gIx (fVar 0) (fC (.da (.int 2)))) (fVar 1)))
  (fSeq (fSetIt (fOp gDiv (fOp gIx (fVar 0) (fC (.da (.int 2)))) (fVar 1)) (fVar 0) (fC (.da (.int 2))))
  (fRet (fVar 2)))) fNext)
  (fSeq (fSet 3 (fOp gIx (fVar 0) (fC (.da (.int 1)))))
  (fSeq (fSetIt (fOp (gAdd false) (fVar 3) (fC (.da (.int 1)))) (fVar 0) (fC (.da (.int 1))))
  (fSeq (fSet 4 (fC (.da (.int 0))))
  (fSeq (fIfS (fTest (fOp gGt (fCB gLen (fCons (fOp gIx (fVar 0) (fC (.da (.int 0)))) fNil)) (fC (.da (.int 0))))) (fSet 4 (fOp gIx (fOp gIx (fVar 0) (fC (.da (.int 0)))) (fOp gMod (fVar 3) (fCB gLen (fCons (fOp gIx (fVar 0) (fC (.da (.int 0)))) fNil))))) fNext)
  (fSeq (fIfS (fTest (fOp gGe (fVar 4) (fOp gPow (fC (.da (.int 10))) (fC (.da (.int 18)))))) (fSeq (fSetIt (fOp gDiv (fVar 4) (fVar 1)) (fVar 0) (fC (.da (.int 2))))
  (fRet (fOp gMod (fVar 4) (fVar 1)))) fNext)
  (fSeq (fSet 5 (fOp gMod (fOp gMul (fOp (gAdd false) (fOp (gAdd false) (fOp (gAdd false) (fOp gMod (fVar 4) (fC (.da (.int 1000003)))) (fOp gMul (fOp gMul (fC (.da (.int 37))) (fVar 3)) (fVar 3))) (fOp gMul (fC (.da (.int 101))) (fVar 3))) (fC (.da (.int 7)))) (fC (.da (.int 48271)))) (fC (.da (.int 2147483587)))))
  (fSeq (fSet 5 (fOp gMod (fOp (gAdd false) (fOp gMul (fVar 5) (fC (.da (.int 69621)))) (fOp gMul (fC (.da (.int 7919))) (fVar 3))) (fC (.da (.int 2147483549)))))
  (fRet (fOp gMod (fOp gDiv (fVar 5) (fC (.da (.int 64)))) (fVar 1)))))))))))
noncomputable def F_law_draw : FF := bodyF 6 B_law_draw
theorem e_law_draw {a0 a1 : D} {s : S} : F_law_draw [a0, a1] s = (B_law_draw [some a0, some a1, none, none, none, none] s).bind kBody := rfl
theorem sc_law_draw : FnScope ["_law_tape_here", "_law_many", "_law_found", "_law_spot", "_law_cell", "_law_mixed"] ["_law_tape_here", "_law_many"] (defScope s__law_draw) := ⟨rfl, rfl, rfl, by decide +kernel, rfl, by decide +kernel, by decide +kernel⟩
section
variable {P : Program} {w : World} {K : PySem.W.Frag} {mg : Str -> Option Value} {base : Heap}
theorem ok_law_draw (T : Txt0 K mg) : CalF P w K mg base "_law_draw" 1 2 F_law_draw := by
 exact calF (k := 0) T.h__law_draw sc_law_draw rfl rfl (fun f cdv A outer s H E hr =>
   (rss_cons (rs_if (rt_cmp o_gt (re_ix (re_var 0) re_int) re_int) (rss_cons (rs_set (i := 2) sc_law_draw.nd rfl (Or.inl rfl) (re_op o_mod (re_ix (re_var 0) re_int) (re_var 1)))
   (rss_cons (rs_sub (re_op o_div (re_ix (re_var 0) re_int) (re_var 1)) (re_var 0) re_int)
   (rss_one (rs_ret (re_var 2))))) rss_nil)
   (rss_cons (rs_set (i := 3) sc_law_draw.nd rfl (Or.inl rfl) (re_ix (re_var 0) re_int))
   (rss_cons (rs_sub (re_op (o_add false) (re_var 3) re_int) (re_var 0) re_int)
   (rss_cons (rs_set (i := 4) sc_law_draw.nd rfl (Or.inl rfl) re_int)
   (rss_cons (rs_if (rt_cmp o_gt (re_cb c_len T.n_len b_len (ra_cons (re_ix (re_var 0) re_int) ra_nil)) re_int) (rss_one (rs_set (i := 4) sc_law_draw.nd rfl (Or.inl rfl) (re_ix (re_ix (re_var 0) re_int) (re_op o_mod (re_var 3) (re_cb c_len T.n_len b_len (ra_cons (re_ix (re_var 0) re_int) ra_nil)))))) rss_nil)
   (rss_cons (rs_if (rt_cmp o_ge (re_var 4) (re_op o_pow re_int re_int)) (rss_cons (rs_sub (re_op o_div (re_var 4) (re_var 1)) (re_var 0) re_int)
   (rss_one (rs_ret (re_op o_mod (re_var 4) (re_var 1))))) rss_nil)
   (rss_cons (rs_set (i := 5) sc_law_draw.nd rfl (Or.inl rfl) (re_op o_mod (re_op o_mul (re_op (o_add false) (re_op (o_add false) (re_op (o_add false) (re_op o_mod (re_var 4) re_int) (re_op o_mul (re_op o_mul re_int (re_var 3)) (re_var 3))) (re_op o_mul re_int (re_var 3))) re_int) re_int) re_int))
   (rss_cons (rs_set (i := 5) sc_law_draw.nd rfl (Or.inl rfl) (re_op o_mod (re_op (o_add false) (re_op o_mul (re_var 5) re_int) (re_op o_mul re_int (re_var 3))) re_int))
   (rss_one (rs_ret (re_op o_mod (re_op o_div (re_var 5) re_int) (re_var 1)))))))))))))
end
end Ln
namespace Ln
open PySem L2 PF
noncomputable def B_law_names : FS :=
  (fSeq (fSet 2 (fLst false (fVs (List.map D.da [.str "a", .str "ab", .str "abc", .str "net", .str "end", .str "within", .str "to", .str "table", .str "step", .str "box", .str "port", .str "next", .str "b", .str "zzzzzzzz"]))))
  (fSeq (fSet 2 (fOp (gAdd false) (fVar 2) (fLst false (fVs (List.map D.da [.str "both", .str "place", .str "ba"])))))
  (fSeq (fSet 3 (fCall 2 F_law_draw (fCons (fVar 0) (fCons (fC (.da (.int 17))) fNil))))
  (fSeq (fSet 4 (fOp (gAdd false) (fC (.da (.int 1))) (fCall 2 F_law_draw (fCons (fVar 0) (fCons (fC (.da (.int 16))) fNil)))))
  (fRet (fLc false [2, 3, 4] 1 (fRng (fCons (fVar 1) fNil)) (.nm 0) fYes (fOp gIx (fVar 1) (fOp gMod (fOp (gAdd false) (fVar 2) (fOp gMul (fVar 3) (fVar 0))) (fC (.da (.int 17)))))))))))
noncomputable def F_law_names : FF := bodyF 5 B_law_names
theorem e_law_names {a0 a1 : D} {s : S} : F_law_names [a0, a1] s = (B_law_names [some a0, some a1, none, none, none] s).bind kBody := rfl
theorem sc_law_names : FnScope ["_law_tape_here", "_law_many", "_law_some", "_law_first", "_law_step_here"] ["_law_tape_here", "_law_many"] (defScope s__law_names) := ⟨rfl, rfl, rfl, by decide +kernel, rfl, by decide +kernel, by decide +kernel⟩
section
variable {P : Program} {w : World} {K : PySem.W.Frag} {mg : Str -> Option Value} {base : Heap}
theorem ok_law_names (T : Txt0 K mg) : CalF P w K mg base "_law_names" 2 2 F_law_names := by
 have c_law_draw := ok_law_draw (P := P) (w := w) (base := base) T
 exact calF (k := 1) T.h__law_names sc_law_names rfl rfl (fun f cdv A outer s H E hr =>
   (rss_cons (rs_set (i := 2) sc_law_names.nd rfl (Or.inr rfl) (re_lst false (ra_consts rfl)))
   (rss_cons (rs_set (i := 2) sc_law_names.nd rfl (Or.inr rfl) (re_op (o_add false) (re_var 2) (re_lst false (ra_consts rfl))))
   (rss_cons (rs_set (i := 3) sc_law_names.nd rfl (Or.inr rfl) (re_c c_law_draw (hr.mono (by decide)) (ra_cons (re_var 0) (ra_cons re_int ra_nil))))
   (rss_cons (rs_set (i := 4) sc_law_names.nd rfl (Or.inr rfl) (re_op (o_add false) re_int (re_c c_law_draw (hr.mono (by decide)) (ra_cons (re_var 0) (ra_cons re_int ra_nil)))))
   (rss_one (rs_ret (re_lc false (own := ["_law_k"]) (caps := ["_law_some", "_law_first", "_law_step_here"]) (js := [2, 3, 4]) rfl rfl rfl rfl rfl (⟨⟨rfl, Or.inr (Or.inl rfl), rfl, rfl⟩, ⟨⟨rfl, Or.inr (Or.inl rfl), rfl, rfl⟩, ⟨⟨rfl, Or.inr (Or.inl rfl), rfl, rfl⟩, trivial⟩⟩⟩) rfl (ri_rng T.n_range (ra_cons (re_var 1) ra_nil)) (fun _ _ _ _ => (rg_name (i := 0) (show (["_law_k", "_law_some", "_law_first", "_law_step_here"] : List Str).Nodup by decide +kernel) rfl (Or.inl rfl) (Or.inr rfl))) (fun _ _ _ _ => rifs_nil) (fun _ _ _ _ => (re_ix (re_var 1) (re_op o_mod (re_op (o_add false) (re_var 2) (re_op o_mul (re_var 3) (re_var 0))) re_int)))))))))))
end
end Ln
namespace Ln
open PySem L2 PF
noncomputable def B_law_told : FS :=
  (fSeq (fSet 2 (fLc false [0] 1 (fRng (fCons (fVar 1) fNil)) (.nm 0) (fTest (fOp gEq (fCall 2 F_law_draw (fCons (fVar 1) (fCons (fC (.da (.int 2))) fNil))) (fC (.da (.int 0))))) (fVar 0)))
  (fRet (fIf (fTest (fOp gNe (fVar 2) (fLst false fNil))) (fCB gTuple (fCons (fVar 2) fNil)) (fTup (fCons (fCall 2 F_law_draw (fCons (fVar 0) (fCons (fVar 1) fNil))) fNil)))))
noncomputable def F_law_told : FF := bodyF 3 B_law_told
theorem e_law_told {a0 a1 : D} {s : S} : F_law_told [a0, a1] s = (B_law_told [some a0, some a1, none] s).bind kBody := rfl
theorem sc_law_told : FnScope ["_law_tape_here", "_law_things", "_law_found"] ["_law_tape_here", "_law_things"] (defScope s__law_told) := ⟨rfl, rfl, rfl, by decide +kernel, rfl, by decide +kernel, by decide +kernel⟩
section
variable {P : Program} {w : World} {K : PySem.W.Frag} {mg : Str -> Option Value} {base : Heap}
theorem ok_law_told (T : Txt0 K mg) : CalF P w K mg base "_law_told" 2 2 F_law_told := by
 have c_law_draw := ok_law_draw (P := P) (w := w) (base := base) T
 exact calF (k := 1) T.h__law_told sc_law_told rfl rfl (fun f cdv A outer s H E hr =>
   (rss_cons (rs_setLc false (own := ["_law_one"]) (caps := ["_law_tape_here"]) (js := [0]) (i := 2) rfl sc_law_told.nd rfl rfl rfl rfl rfl rfl rfl (⟨⟨rfl, Or.inr (Or.inl rfl), rfl, rfl⟩, trivial⟩) rfl (ri_rng T.n_range (ra_cons (re_var 1) ra_nil)) (fun _ _ _ _ => (rg_name (i := 0) (show (["_law_one", "_law_tape_here"] : List Str).Nodup by decide +kernel) rfl (Or.inl rfl) (Or.inr rfl))) (fun _ _ _ _ => (rifs_one (rt_cmp (o_eq (u64 hr)) (re_c c_law_draw (hr.mono (by decide)) (ra_cons (re_var 1) (ra_cons re_int ra_nil))) re_int))) (fun _ _ _ _ => (re_var 0)))
   (rss_one (rs_ret (re_if (rt_cmp (o_ne (u64 hr)) (re_var 2) (re_lst false ra_nil)) (re_ct c_tuple T.n_tuple b_tuple (ra_cons (re_var 2) ra_nil)) (re_tup (ra_cons (re_c c_law_draw (hr.mono (by decide)) (ra_cons (re_var 0) (ra_cons (re_var 1) ra_nil))) ra_nil)))))))
end
end Ln
namespace Ln
open PySem L2 PF
noncomputable def B_law_step : FS :=
  (fSeq (fSet 5 (fLc false [0] 1 (fIt (fVar 2)) (.nm 0) (fTest (fOp gEq (fCall 2 F_law_draw (fCons (fVar 1) (fCons (fC (.da (.int 2))) fNil))) (fC (.da (.int 0))))) (fVar 0)))
  (fSeq (fSet 6 (fLst true (fCons (fLst true fNil) (fCons (fLst true fNil) (fCons (fLst true fNil) fNil)))))
  (fSeq (fFor (fIt (fVar 5)) (.nm 7) (fDrop (fMt gAppend (fOp gIx (fVar 6) (fCall 2 F_law_draw (fCons (fVar 0) (fCons (fC (.da (.int 3))) fNil)))) (fCons (fTup (fCons (fC (.da (.str "port"))) (fCons (fVar 7) fNil))) fNil))))
  (fSeq (fFor (fRng (fCons (fVar 3) fNil)) (.nm 8) (fSeq (fSet 9 (fCall 2 F_law_draw (fCons (fVar 0) (fCons (fC (.da (.int 5))) fNil))))
  (fSeq (fIfS (fOrT (fTest (fOp gLt (fVar 9) (fC (.da (.int 2))))) (fTest (fOp gEq (fVar 9) (fC (.da (.int 4)))))) (fDrop (fMt gAppend (fOp gIx (fVar 6) (fCall 2 F_law_draw (fCons (fVar 0) (fCons (fC (.da (.int 3))) fNil)))) (fCons (fTup (fCons (fC (.da (.str "box"))) (fCons (fVar 8) fNil))) fNil))) fNext)
  (fIfS (fTest (fOp gIn (fVar 9) (fTup (fVs (List.map D.da [.int 1, .int 2, .int 4]))))) (fDrop (fMt gAppend (fOp gIx (fVar 6) (fCall 2 F_law_draw (fCons (fVar 0) (fCons (fC (.da (.int 3))) fNil)))) (fCons (fTup (fCons (fC (.da (.str "next"))) (fCons (fVar 8) fNil))) fNil))) fNext))))
  (fSeq (fSet 10 (fLst true fNil))
  (fSeq (fFor (fIt (fVar 6)) (.nm 11) (fIfS (fTest (fOp gNe (fVar 11) (fLst false fNil))) (fDrop (fMt gAppend (fVar 10) (fCons (fTup (fCons (fCB gTuple (fCons (fCB (gSorted false) (fCons (fVar 11) fNil)) fNil)) (fCons (fCall 2 F_law_told (fCons (fVar 0) (fCons (fVar 1) fNil))) fNil))) fNil))) fNext))
  (fSeq (fSet 12 (fOp gIx (fVar 4) (fCall 2 F_law_draw (fCons (fVar 0) (fCons (fCB gLen (fCons (fVar 4) fNil)) fNil)))))
  (fRet (fTup (fCons (fVar 12) (fCons (fCB gTuple (fCons (fCB (gSorted false) (fCons (fVar 5) fNil)) fNil)) (fCons (fCB gTuple (fCons (fVar 10) fNil)) (fCons (fOp gIx (fVar 4) (fCall 2 F_law_draw (fCons (fVar 0) (fCons (fCB gLen (fCons (fVar 4) fNil)) fNil)))) fNil)))))))))))))
noncomputable def F_law_step : FF := bodyF 13 B_law_step
theorem e_law_step {a0 a1 a2 a3 a4 : D} {s : S} : F_law_step [a0, a1, a2, a3, a4] s = (B_law_step [some a0, some a1, some a2, some a3, some a4, none, none, none, none, none, none, none, none] s).bind kBody := rfl
theorem sc_law_step : FnScope ["_law_tape_here", "_law_things", "_law_ports", "_law_boxes", "_law_places", "_law_passing", "_law_groups", "_law_port", "_law_box", "_law_way", "_law_ties", "_law_spots", "_law_start"] ["_law_tape_here", "_law_things", "_law_ports", "_law_boxes", "_law_places"] (defScope s__law_step) := ⟨rfl, rfl, rfl, by decide +kernel, rfl, by decide +kernel, by decide +kernel⟩
section
variable {P : Program} {w : World} {K : PySem.W.Frag} {mg : Str -> Option Value} {base : Heap}
theorem ok_law_step (T : Txt0 K mg) : CalF P w K mg base "_law_step" 3 5 F_law_step := by
 have c_law_draw := ok_law_draw (P := P) (w := w) (base := base) T
 have c_law_told := ok_law_told (P := P) (w := w) (base := base) T
 exact calF (k := 2) T.h__law_step sc_law_step rfl rfl (fun f cdv A outer s H E hr =>
   (rss_cons (rs_setLc false (own := ["_law_port"]) (caps := ["_law_tape_here"]) (js := [0]) (i := 5) rfl sc_law_step.nd rfl rfl rfl rfl rfl rfl rfl (⟨⟨rfl, Or.inr (Or.inl rfl), rfl, rfl⟩, trivial⟩) rfl (ri_any (re_var 2)) (fun _ _ _ _ => (rg_name (i := 0) (show (["_law_port", "_law_tape_here"] : List Str).Nodup by decide +kernel) rfl (Or.inl rfl) (Or.inr rfl))) (fun _ _ _ _ => (rifs_one (rt_cmp (o_eq (u64 hr)) (re_c c_law_draw (hr.mono (by decide)) (ra_cons (re_var 1) (ra_cons re_int ra_nil))) re_int))) (fun _ _ _ _ => (re_var 0)))
   (rss_cons (rs_set (i := 6) sc_law_step.nd rfl (Or.inl rfl) (re_lst true (ra_cons (re_lst true ra_nil) (ra_cons (re_lst true ra_nil) (ra_cons (re_lst true ra_nil) ra_nil)))))
   (rss_cons (rs_for rfl (ri_any (re_var 5)) (rg_name (i := 7) sc_law_step.nd rfl (Or.inl rfl)) (rss_one (rs_expr (re_mt PySem.F.slot_list_append PySem.F.type_list_append m_append (re_ix (re_var 6) (re_c c_law_draw (hr.mono (by decide)) (ra_cons (re_var 0) (ra_cons re_int ra_nil)))) (ra_cons (re_tup (ra_cons re_str (ra_cons (re_var 7) ra_nil))) ra_nil)))))
   (rss_cons (rs_for rfl (ri_rng T.n_range (ra_cons (re_var 3) ra_nil)) (rg_name (i := 8) sc_law_step.nd rfl (Or.inl rfl)) (rss_cons (rs_set (i := 9) sc_law_step.nd rfl (Or.inl rfl) (re_c c_law_draw (hr.mono (by decide)) (ra_cons (re_var 0) (ra_cons re_int ra_nil))))
   (rss_cons (rs_if (RW.rt (rw_or (rt_cmp o_lt (re_var 9) re_int) (rw_or1 (rt_cmp (o_eq (u64 hr)) (re_var 9) re_int)))) (rss_one (rs_expr (re_mt PySem.F.slot_list_append PySem.F.type_list_append m_append (re_ix (re_var 6) (re_c c_law_draw (hr.mono (by decide)) (ra_cons (re_var 0) (ra_cons re_int ra_nil)))) (ra_cons (re_tup (ra_cons re_str (ra_cons (re_var 8) ra_nil))) ra_nil)))) rss_nil)
   (rss_one (rs_if (rt_cmp (o_in (u65 hr)) (re_var 9) (re_tup (ra_consts rfl))) (rss_one (rs_expr (re_mt PySem.F.slot_list_append PySem.F.type_list_append m_append (re_ix (re_var 6) (re_c c_law_draw (hr.mono (by decide)) (ra_cons (re_var 0) (ra_cons re_int ra_nil)))) (ra_cons (re_tup (ra_cons re_str (ra_cons (re_var 8) ra_nil))) ra_nil)))) rss_nil)))))
   (rss_cons (rs_set (i := 10) sc_law_step.nd rfl (Or.inl rfl) (re_lst true ra_nil))
   (rss_cons (rs_for rfl (ri_any (re_var 6)) (rg_name (i := 11) sc_law_step.nd rfl (Or.inl rfl)) (rss_one (rs_if (rt_cmp (o_ne (u64 hr)) (re_var 11) (re_lst false ra_nil)) (rss_one (rs_expr (re_mt PySem.F.slot_list_append PySem.F.type_list_append m_append (re_var 10) (ra_cons (re_tup (ra_cons (re_ct c_tuple T.n_tuple b_tuple (ra_cons (re_cb (c_sorted false (u70 hr)) T.n_sorted b_sorted (ra_cons (re_var 11) ra_nil)) ra_nil)) (ra_cons (re_c c_law_told (hr.mono (by decide)) (ra_cons (re_var 0) (ra_cons (re_var 1) ra_nil))) ra_nil))) ra_nil)))) rss_nil)))
   (rss_cons (rs_set (i := 12) sc_law_step.nd rfl (Or.inl rfl) (re_ix (re_var 4) (re_c c_law_draw (hr.mono (by decide)) (ra_cons (re_var 0) (ra_cons (re_cb c_len T.n_len b_len (ra_cons (re_var 4) ra_nil)) ra_nil)))))
   (rss_one (rs_ret (re_tup (ra_cons (re_var 12) (ra_cons (re_ct c_tuple T.n_tuple b_tuple (ra_cons (re_cb (c_sorted false (u70 hr)) T.n_sorted b_sorted (ra_cons (re_var 5) ra_nil)) ra_nil)) (ra_cons (re_ct c_tuple T.n_tuple b_tuple (ra_cons (re_var 10) ra_nil)) (ra_cons (re_ix (re_var 4) (re_c c_law_draw (hr.mono (by decide)) (ra_cons (re_var 0) (ra_cons (re_cb c_len T.n_len b_len (ra_cons (re_var 4) ra_nil)) ra_nil)))) ra_nil)))))))))))))))
end
end Ln
namespace Ln
open PySem L2 PF
noncomputable def B_law_machine : FS :=
  (fSeq (fSet 4 (fOp gIx (fLst false (fCons (fLst false (fCons (fC (.da (.int 4))) fNil)) (fCons (fLst false (fVs (List.map D.da [.int 0, .int 1]))) (fCons (fLst false (fVs (List.map D.da [.int 1, .int 0]))) (fCons (fLst false (fCons (fOp gPow (fC (.da (.int 10))) (fC (.da (.int 12)))) (fCons (fC (.da (.int 3))) (fCons (fC (.da (.int 0))) fNil)))) fNil))))) (fCall 2 F_law_draw (fCons (fVar 0) (fCons (fC (.da (.int 4))) fNil)))))
  (fSeq (fSet 5 (fCall 2 F_law_draw (fCons (fVar 0) (fCons (fC (.da (.int 3))) fNil))))
  (fSeq (fSet 6 (fLst true fNil))
  (fSeq (fFor (fRng (fCons (fCall 2 F_law_draw (fCons (fVar 0) (fCons (fOp (gAdd false) (fVar 3) (fC (.da (.int 1)))) fNil))) fNil)) (.nm 7) (fSeq (fSet 8 (fCall 5 F_law_step (fCons (fVar 0) (fCons (fVar 1) (fCons (fVar 2) (fCons (fVar 5) (fCons (fVar 4) fNil)))))))
  (fIfS (fTest (fOp gNotIn (fVar 8) (fVar 6))) (fDrop (fMt gAppend (fVar 6) (fCons (fVar 8) fNil))) fNext)))
  (fSeq (fSet 9 (fCB gTuple (fCons (fLc false [0, 1] 1 (fRng (fCons (fVar 5) fNil)) (.nm 0) fYes (fOp gIx (fLst false (fCons (fC (.da (.none))) (fCons (fCall 2 F_law_draw (fCons (fVar 1) (fCons (fVar 2) fNil))) fNil))) (fCall 2 F_law_draw (fCons (fVar 1) (fCons (fC (.da (.int 2))) fNil))))) fNil)))
  (fRet (fTup (fCons (fVar 1) (fCons (fCB gTuple (fCons (fCB (gSorted false) (fCons (fVar 2) fNil)) fNil)) (fCons (fVar 5) (fCons (fTup (fCons (fOp gIx (fVar 4) (fC (.da (.int 0)))) (fCons (fVar 9) fNil))) (fCons (fCB gTuple (fCons (fVar 6) fNil)) fNil))))))))))))
noncomputable def F_law_machine : FF := bodyF 10 B_law_machine
theorem e_law_machine {a0 a1 a2 a3 : D} {s : S} : F_law_machine [a0, a1, a2, a3] s = (B_law_machine [some a0, some a1, some a2, some a3, none, none, none, none, none, none] s).bind kBody := rfl
theorem sc_law_machine : FnScope ["_law_tape_here", "_law_things", "_law_ports", "_law_most", "_law_places", "_law_boxes", "_law_steps", "_law_k", "_law_step_here", "_law_held"] ["_law_tape_here", "_law_things", "_law_ports", "_law_most"] (defScope s__law_machine) := ⟨rfl, rfl, rfl, by decide +kernel, rfl, by decide +kernel, by decide +kernel⟩
section
variable {P : Program} {w : World} {K : PySem.W.Frag} {mg : Str -> Option Value} {base : Heap}
theorem ok_law_machine (T : Txt0 K mg) : CalF P w K mg base "_law_machine" 4 4 F_law_machine := by
 have c_law_draw := ok_law_draw (P := P) (w := w) (base := base) T
 have c_law_step := ok_law_step (P := P) (w := w) (base := base) T
 exact calF (k := 3) T.h__law_machine sc_law_machine rfl rfl (fun f cdv A outer s H E hr =>
   (rss_cons (rs_set (i := 4) sc_law_machine.nd rfl (Or.inl rfl) (re_ix (re_lst false (ra_cons (re_lst false (ra_cons re_int ra_nil)) (ra_cons (re_lst false (ra_consts rfl)) (ra_cons (re_lst false (ra_consts rfl)) (ra_cons (re_lst false (ra_cons (re_op o_pow re_int re_int) (ra_cons re_int (ra_cons re_int ra_nil)))) ra_nil))))) (re_c c_law_draw (hr.mono (by decide)) (ra_cons (re_var 0) (ra_cons re_int ra_nil)))))
   (rss_cons (rs_set (i := 5) sc_law_machine.nd rfl (Or.inl rfl) (re_c c_law_draw (hr.mono (by decide)) (ra_cons (re_var 0) (ra_cons re_int ra_nil))))
   (rss_cons (rs_set (i := 6) sc_law_machine.nd rfl (Or.inl rfl) (re_lst true ra_nil))
   (rss_cons (rs_for rfl (ri_rng T.n_range (ra_cons (re_c c_law_draw (hr.mono (by decide)) (ra_cons (re_var 0) (ra_cons (re_op (o_add false) (re_var 3) re_int) ra_nil))) ra_nil)) (rg_name (i := 7) sc_law_machine.nd rfl (Or.inl rfl)) (rss_cons (rs_set (i := 8) sc_law_machine.nd rfl (Or.inl rfl) (re_c c_law_step (hr.mono (by decide)) (ra_cons (re_var 0) (ra_cons (re_var 1) (ra_cons (re_var 2) (ra_cons (re_var 5) (ra_cons (re_var 4) ra_nil)))))))
   (rss_one (rs_if (rt_cmp (o_notin (u65 hr)) (re_var 8) (re_var 6)) (rss_one (rs_expr (re_mt PySem.F.slot_list_append PySem.F.type_list_append m_append (re_var 6) (ra_cons (re_var 8) ra_nil)))) rss_nil))))
   (rss_cons (rs_set (i := 9) sc_law_machine.nd rfl (Or.inl rfl) (re_ct c_tuple T.n_tuple b_tuple (ra_cons (re_lc false (own := ["_law_k"]) (caps := ["_law_tape_here", "_law_things"]) (js := [0, 1]) rfl rfl rfl rfl rfl (⟨⟨rfl, Or.inr (Or.inl rfl), rfl, rfl⟩, ⟨⟨rfl, Or.inr (Or.inl rfl), rfl, rfl⟩, trivial⟩⟩) rfl (ri_rng T.n_range (ra_cons (re_var 5) ra_nil)) (fun _ _ _ _ => (rg_name (i := 0) (show (["_law_k", "_law_tape_here", "_law_things"] : List Str).Nodup by decide +kernel) rfl (Or.inl rfl) (Or.inr rfl))) (fun _ _ _ _ => rifs_nil) (fun _ _ _ _ => (re_ix (re_lst false (ra_cons re_non (ra_cons (re_c c_law_draw (hr.mono (by decide)) (ra_cons (re_var 1) (ra_cons (re_var 2) ra_nil))) ra_nil))) (re_c c_law_draw (hr.mono (by decide)) (ra_cons (re_var 1) (ra_cons re_int ra_nil)))))) ra_nil)))
   (rss_one (rs_ret (re_tup (ra_cons (re_var 1) (ra_cons (re_ct c_tuple T.n_tuple b_tuple (ra_cons (re_cb (c_sorted false (u70 hr)) T.n_sorted b_sorted (ra_cons (re_var 2) ra_nil)) ra_nil)) (ra_cons (re_var 5) (ra_cons (re_tup (ra_cons (re_ix (re_var 4) re_int) (ra_cons (re_var 9) ra_nil))) (ra_cons (re_ct c_tuple T.n_tuple b_tuple (ra_cons (re_var 6) ra_nil)) ra_nil))))))))))))))
end
end Ln
namespace Ln
open PySem L2 PF
noncomputable def B_law_doings (F_law_doings : FF) : FS :=
  (fSeq (fIfS (fTest (fOp gEq (fVar 0) (fTup fNil))) (fRet (fLst false (fCons (fTup fNil) fNil))) fNext)
  (fSeq (fSet 2 (fLst true fNil))
  (fSeq (fFor (fIt (fOp gIx (fOp gIx (fVar 0) (fC (.da (.int 0)))) (fC (.da (.int 1))))) (.nm 3) (fIfS (fTest (fOp gEq (fLc false [3, 1] 2 (fIt (fOp gIx (fOp gIx (fVar 0) (fC (.da (.int 0)))) (fC (.da (.int 0))))) (.t2 (.nm 0) (.nm 1)) (fAndT (fTest (fOp gEq (fVar 0) (fC (.da (.str "box"))))) (fTest (fOp gNe (fOp gIx (fVar 3) (fVar 1)) (fVar 2)))) (fVar 1)) (fLst false fNil))) (fDrop (fMt gExtend (fVar 2) (fCons (fLc false [3] 1 (fIt (fCall 2 F_law_doings (fCons (fSl false (fVar 0) (fSome (fC (.da (.int 1)))) fNo) (fCons (fVar 1) fNil)))) (.nm 0) fYes (fOp (gAdd false) (fTup (fCons (fVar 1) fNil)) (fVar 0))) fNil))) fNext))
  (fRet (fFrz (fVar 2))))))
noncomputable def F_law_doings : Nat -> FF
 | 0 => badF
 | n + 1 => bodyF 4 (B_law_doings (F_law_doings n))
theorem e_law_doings {n : Nat} {a0 a1 : D} {s : S} : F_law_doings (n + 1) [a0, a1] s = (B_law_doings (F_law_doings n) [some a0, some a1, none, none] s).bind kBody := rfl
theorem sc_law_doings : FnScope ["_law_ties", "_law_held", "_law_found", "_law_thing"] ["_law_ties", "_law_held"] (defScope s__law_doings) := ⟨rfl, rfl, rfl, by decide +kernel, rfl, by decide +kernel, by decide +kernel⟩
section
variable {P : Program} {w : World} {K : PySem.W.Frag} {mg : Str -> Option Value} {base : Heap}
theorem ok_law_doings (T : Txt0 K mg) : ∀ n : Nat, CalF P w K mg base "_law_doings" (1 + n) 2 (F_law_doings n)
 | 0 => (cal_bad (k := 0) T.h__law_doings sc_law_doings rfl)
 | n + 1 => by
  have ih := ok_law_doings T n
  exact calF (k := 1 + n) T.h__law_doings sc_law_doings rfl rfl (fun f cdv A outer s H E hr =>
   (rss_cons (rs_if (rt_cmp (o_eq (u64 hr)) (re_var 0) (re_tup ra_nil)) (rss_one (rs_ret (re_lst false (ra_cons (re_tup ra_nil) ra_nil)))) rss_nil)
   (rss_cons (rs_set (i := 2) sc_law_doings.nd rfl (Or.inl rfl) (re_lst true ra_nil))
   (rss_cons (rs_for rfl (ri_any (re_ix (re_ix (re_var 0) re_int) re_int)) (rg_name (i := 3) sc_law_doings.nd rfl (Or.inr rfl)) (rss_one (rs_if (rt_cmp (o_eq (u64 hr)) (re_lc false (own := ["_law_kind", "_law_box"]) (caps := ["_law_thing", "_law_held"]) (js := [3, 1]) rfl rfl rfl rfl rfl (⟨⟨rfl, Or.inr (Or.inl rfl), rfl, rfl⟩, ⟨⟨rfl, Or.inr (Or.inl rfl), rfl, rfl⟩, trivial⟩⟩) rfl (ri_any (re_ix (re_ix (re_var 0) re_int) re_int)) (fun _ _ _ _ => (rg_t2 rfl (rg_name (i := 0) (show (["_law_kind", "_law_box", "_law_thing", "_law_held"] : List Str).Nodup by decide +kernel) rfl (Or.inl rfl) (Or.inr rfl)) (rg_name (i := 1) (show (["_law_kind", "_law_box", "_law_thing", "_law_held"] : List Str).Nodup by decide +kernel) rfl (Or.inl rfl) (Or.inr rfl)))) (fun _ _ _ _ => (rifs_one (RW.rt (rw_and (rt_cmp (o_eq (u64 hr)) (re_var 0) re_str) (rw_and1 (rt_cmp (o_ne (u64 hr)) (re_ix (re_var 3) (re_var 1)) (re_var 2))))))) (fun _ _ _ _ => (re_var 1))) (re_lst false ra_nil)) (rss_one (rs_expr (re_mt PySem.F.slot_list_extend PySem.F.type_list_extend m_extend (re_var 2) (ra_cons (re_lc false (own := ["_law_rest"]) (caps := ["_law_thing"]) (js := [3]) rfl rfl rfl rfl rfl (⟨⟨rfl, Or.inr (Or.inl rfl), rfl, rfl⟩, trivial⟩) rfl (ri_any (re_c ih (hr.mono (by omega)) (ra_cons (re_slice false (re_var 0) (ro_some re_int) ro_none) (ra_cons (re_var 1) ra_nil)))) (fun _ _ _ _ => (rg_name (i := 0) (show (["_law_rest", "_law_thing"] : List Str).Nodup by decide +kernel) rfl (Or.inl rfl) (Or.inr rfl))) (fun _ _ _ _ => rifs_nil) (fun _ _ _ _ => (re_op (o_add false) (re_tup (ra_cons (re_var 1) ra_nil)) (re_var 0)))) ra_nil)))) rss_nil)))
   (rss_one (rs_ret (re_frz (re_var 2))))))))
end
end Ln
namespace Ln
open PySem L2 PF
noncomputable def B_law_done : FS :=
  (fSeq (fSet 3 (fLst true fNil))
  (fSeq (fSet 4 fDct0)
  (fSeq (fSet 5 fDct0)
  (fSeq (fFor (fRng (fCons (fCB gLen (fCons (fVar 2) fNil)) fNil)) (.nm 6) (fFor (fIt (fOp gIx (fOp gIx (fOp gIx (fVar 0) (fC (.da (.int 2)))) (fVar 6)) (fC (.da (.int 0))))) (.t2 (.nm 7) (.nm 8)) (fIfS (fTest (fOp gEq (fVar 7) (fC (.da (.str "port"))))) (fDrop (fMt gAppend (fVar 3) (fCons (fTup (fCons (fVar 8) (fCons (fOp gIx (fVar 2) (fVar 6)) fNil))) fNil))) (fIfS (fTest (fOp gEq (fVar 7) (fC (.da (.str "next"))))) (fSetIt2 gSet2 (fOp gIx (fVar 2) (fVar 6)) (fVar 5) (fVar 8)) (fSetIt2 gSet2 (fC (.da (.bool true))) (fVar 4) (fVar 8))))))
  (fSeq (fSet 9 (fLc false [5, 4, 1] 1 (fRng (fCons (fCB gLen (fCons (fVar 1) fNil)) fNil)) (.nm 0) fYes (fMd gDget (fVar 1) (fCons (fVar 0) (fCons (fIf (fTest (fOp (gIn2 false) (fVar 0) (fVar 2))) (fC (.da (.none))) (fOp gIx (fVar 3) (fVar 0))) fNil)))))
  (fRet (fTup (fCons (fCB gTuple (fCons (fCB (gSorted false) (fCons (fVar 3) fNil)) fNil)) (fCons (fTup (fCons (fOp gIx (fVar 0) (fC (.da (.int 3)))) (fCons (fCB gTuple (fCons (fVar 9) fNil)) fNil))) fNil)))))))))
noncomputable def F_law_done : FF := bodyF 10 B_law_done
theorem e_law_done {a0 a1 a2 : D} {s : S} : F_law_done [a0, a1, a2] s = (B_law_done [some a0, some a1, some a2, none, none, none, none, none, none, none] s).bind kBody := rfl
theorem sc_law_done : FnScope ["_law_step_here", "_law_held", "_law_things", "_law_moment", "_law_gone", "_law_laid", "_law_k", "_law_kind", "_law_spot", "_law_behind"] ["_law_step_here", "_law_held", "_law_things"] (defScope s__law_done) := ⟨rfl, rfl, rfl, by decide +kernel, rfl, by decide +kernel, by decide +kernel⟩
section
variable {P : Program} {w : World} {K : PySem.W.Frag} {mg : Str -> Option Value} {base : Heap}
theorem ok_law_done (T : Txt0 K mg) : CalF P w K mg base "_law_done" 1 3 F_law_done := by
 exact calF (k := 0) T.h__law_done sc_law_done rfl rfl (fun f cdv A outer s H E hr =>
   (rss_cons (rs_set (i := 3) sc_law_done.nd rfl (Or.inl rfl) (re_lst true ra_nil))
   (rss_cons (rs_set (i := 4) sc_law_done.nd rfl (Or.inr rfl) re_dct0)
   (rss_cons (rs_set (i := 5) sc_law_done.nd rfl (Or.inr rfl) re_dct0)
   (rss_cons (rs_for rfl (ri_rng T.n_range (ra_cons (re_cb c_len T.n_len b_len (ra_cons (re_var 2) ra_nil)) ra_nil)) (rg_name (i := 6) sc_law_done.nd rfl (Or.inl rfl)) (rss_one (rs_for rfl (ri_any (re_ix (re_ix (re_ix (re_var 0) re_int) (re_var 6)) re_int)) (rg_t2 rfl (rg_name (i := 7) sc_law_done.nd rfl (Or.inl rfl)) (rg_name (i := 8) sc_law_done.nd rfl (Or.inl rfl))) (rss_one (rs_if (rt_cmp (o_eq (u64 hr)) (re_var 7) re_str) (rss_one (rs_expr (re_mt PySem.F.slot_list_append PySem.F.type_list_append m_append (re_var 3) (ra_cons (re_tup (ra_cons (re_var 8) (ra_cons (re_ix (re_var 2) (re_var 6)) ra_nil))) ra_nil)))) (rss_one (rs_if (rt_cmp (o_eq (u64 hr)) (re_var 7) re_str) (rss_one (rs_sub2 (set_two (u70 hr)) (re_ix (re_var 2) (re_var 6)) (re_var 5) (re_var 8))) (rss_one (rs_sub2 (set_two (u70 hr)) re_bl (re_var 4) (re_var 8))))))))))
   (rss_cons (rs_setLc false (own := ["_law_box"]) (caps := ["_law_laid", "_law_gone", "_law_held"]) (js := [5, 4, 1]) (i := 9) rfl sc_law_done.nd rfl rfl rfl rfl rfl rfl rfl (⟨⟨rfl, Or.inr (Or.inl rfl), rfl, rfl⟩, ⟨⟨rfl, Or.inr (Or.inl rfl), rfl, rfl⟩, ⟨⟨rfl, Or.inr (Or.inl rfl), rfl, rfl⟩, trivial⟩⟩⟩) rfl (ri_rng T.n_range (ra_cons (re_cb c_len T.n_len b_len (ra_cons (re_var 1) ra_nil)) ra_nil)) (fun _ _ _ _ => (rg_name (i := 0) (show (["_law_box", "_law_laid", "_law_gone", "_law_held"] : List Str).Nodup by decide +kernel) rfl (Or.inl rfl) (Or.inr rfl))) (fun _ _ _ _ => rifs_nil) (fun _ _ _ _ => (re_md PySem.F.slot_dict_get PySem.F.type_dict_get (m_dget (u70 hr)) (re_var 1) (ra_cons (re_var 0) (ra_cons (re_if (rt_cmp (o_in2 (u70 hr)) (re_var 0) (re_var 2)) re_non (re_ix (re_var 3) (re_var 0))) ra_nil)))))
   (rss_one (rs_ret (re_tup (ra_cons (re_ct c_tuple T.n_tuple b_tuple (ra_cons (re_cb (c_sorted false (u70 hr)) T.n_sorted b_sorted (ra_cons (re_var 3) ra_nil)) ra_nil)) (ra_cons (re_tup (ra_cons (re_ix (re_var 0) re_int) (ra_cons (re_ct c_tuple T.n_tuple b_tuple (ra_cons (re_var 9) ra_nil)) ra_nil))) ra_nil)))))))))))
end
end Ln
namespace Ln
open PySem L2 PF
noncomputable def B_law_moves : FS :=
  (fSeq (fSet 2 (fDctP (fpCons (fTup (fCons (fTup fNil) (fCons (fVar 1) fNil))) (fC (.da (.bool true))) fpNil)))
  (fSeq (fFor (fIt (fOp gIx (fVar 0) (fC (.da (.int 4))))) (.nm 3) (fIfS (fTest (fOp gEq (fOp gIx (fVar 3) (fC (.da (.int 0)))) (fOp gIx (fVar 1) (fC (.da (.int 0)))))) (fFor (fIt (fCall 2 (F_law_doings 6) (fCons (fOp gIx (fVar 3) (fC (.da (.int 2)))) (fCons (fOp gIx (fVar 1) (fC (.da (.int 1)))) fNil)))) (.nm 4) (fSetIt2 gSet2 (fC (.da (.bool true))) (fVar 2) (fCall 3 F_law_done (fCons (fVar 3) (fCons (fOp gIx (fVar 1) (fC (.da (.int 1)))) (fCons (fVar 4) fNil)))))) fNext))
  (fRet (fCB (gList2 false) (fCons (fVar 2) fNil)))))
noncomputable def F_law_moves : FF := bodyF 5 B_law_moves
theorem e_law_moves {a0 a1 : D} {s : S} : F_law_moves [a0, a1] s = (B_law_moves [some a0, some a1, none, none, none] s).bind kBody := rfl
theorem sc_law_moves : FnScope ["_law_machine_here", "_law_stand", "_law_found", "_law_step_here", "_law_things"] ["_law_machine_here", "_law_stand"] (defScope s__law_moves) := ⟨rfl, rfl, rfl, by decide +kernel, rfl, by decide +kernel, by decide +kernel⟩
section
variable {P : Program} {w : World} {K : PySem.W.Frag} {mg : Str -> Option Value} {base : Heap}
theorem ok_law_moves (T : Txt0 K mg) : CalF P w K mg base "_law_moves" 8 2 F_law_moves := by
 have c_law_doings := ok_law_doings (P := P) (w := w) (base := base) T 6
 have c_law_done := ok_law_done (P := P) (w := w) (base := base) T
 exact calF (k := 7) T.h__law_moves sc_law_moves rfl rfl (fun f cdv A outer s H E hr =>
   (rss_cons (rs_set (i := 2) sc_law_moves.nd rfl (Or.inl rfl) (re_dctP (u70 hr) (rp_cons (re_tup (ra_cons (re_tup ra_nil) (ra_cons (re_var 1) ra_nil))) re_bl rp_nil)))
   (rss_cons (rs_for rfl (ri_any (re_ix (re_var 0) re_int)) (rg_name (i := 3) sc_law_moves.nd rfl (Or.inl rfl)) (rss_one (rs_if (rt_cmp (o_eq (u64 hr)) (re_ix (re_var 3) re_int) (re_ix (re_var 1) re_int)) (rss_one (rs_for rfl (ri_any (re_c c_law_doings (hr.mono (by decide)) (ra_cons (re_ix (re_var 3) re_int) (ra_cons (re_ix (re_var 1) re_int) ra_nil)))) (rg_name (i := 4) sc_law_moves.nd rfl (Or.inl rfl)) (rss_one (rs_sub2 (set_two (u70 hr)) re_bl (re_var 2) (re_c c_law_done (hr.mono (by decide)) (ra_cons (re_var 3) (ra_cons (re_ix (re_var 1) re_int) (ra_cons (re_var 4) ra_nil)))))))) rss_nil)))
   (rss_one (rs_ret (re_ct (c_list2 false hr.hd) T.n_list b_list (ra_cons (re_var 2) ra_nil)))))))
end
end Ln
namespace Ln
open PySem L2 PF
noncomputable def B_law_right : FS :=
  (fSeq (fSet 2 (fCB gRepr (fCons (fCall 2 F_law_moves (fCons (fVar 0) (fCons (fVar 1) fNil))) fNil)))
  (fSeq (fSet 3 (fCB gRepr (fCons (fTup (fCons (fVar 0) (fCons (fVar 1) fNil))) fNil)))
  (fSeq (fFor (fRng (fCons (fC (.da (.int 2))) fNil)) (.nm 4) (fSeq (fSet 5 (fCall 2 Fmoves_from (fCons (fVar 0) (fCons (fVar 1) fNil))))
  (fSeq (fIfS (fOrT (fNotT (fTru (fCB gIsi (fCons (fVar 5) (fCons (fC (.ty "list")) fNil))))) (fOrT (fTest (fOp gNe (fCB gRepr (fCons (fVar 5) fNil)) (fVar 2))) (fTest (fOp gNe (fCB gRepr (fCons (fTup (fCons (fVar 0) (fCons (fVar 1) fNil))) fNil)) (fVar 3))))) (fRet (fC (.da (.bool false)))) fNext)
  (fSeq (fDrop (fMt gReverse (fVar 5) fNil))
  (fDrop (fMt gAppend (fVar 5) (fCons (fTup fNil) fNil)))))))
  (fRet (fC (.da (.bool true)))))))
noncomputable def F_law_right : FF := bodyF 6 B_law_right
theorem e_law_right {a0 a1 : D} {s : S} : F_law_right [a0, a1] s = (B_law_right [some a0, some a1, none, none, none, none] s).bind kBody := rfl
theorem sc_law_right : FnScope ["_law_machine_here", "_law_stand", "_law_due", "_law_kept", "_law_turn", "_law_found"] ["_law_machine_here", "_law_stand"] (defScope s__law_right) := ⟨rfl, rfl, rfl, by decide +kernel, rfl, by decide +kernel, by decide +kernel⟩
section
variable {P : Program} {w : World} {K : PySem.W.Frag} {mg : Str -> Option Value} {base : Heap}
theorem ok_law_right (T : Txt0 K mg) : CalF P w K mg base "_law_right" 9 2 F_law_right := by
 have cmoves_from := okmoves_from (P := P) (w := w) (base := base) T
 have c_law_moves := ok_law_moves (P := P) (w := w) (base := base) T
 exact calF (k := 8) T.h__law_right sc_law_right rfl rfl (fun f cdv A outer s H E hr =>
   (rss_cons (rs_set (i := 2) sc_law_right.nd rfl (Or.inl rfl) (re_cb (c_repr hr) T.n_repr b_repr (ra_cons (re_c c_law_moves (hr.mono (by decide)) (ra_cons (re_var 0) (ra_cons (re_var 1) ra_nil))) ra_nil)))
   (rss_cons (rs_set (i := 3) sc_law_right.nd rfl (Or.inl rfl) (re_cb (c_repr hr) T.n_repr b_repr (ra_cons (re_tup (ra_cons (re_var 0) (ra_cons (re_var 1) ra_nil))) ra_nil)))
   (rss_cons (rs_for rfl (ri_rng T.n_range (ra_cons re_int ra_nil)) (rg_name (i := 4) sc_law_right.nd rfl (Or.inl rfl)) (rss_cons (rs_set (i := 5) sc_law_right.nd rfl (Or.inl rfl) (re_c cmoves_from (hr.mono (by decide)) (ra_cons (re_var 0) (ra_cons (re_var 1) ra_nil))))
   (rss_cons (rs_if (RW.rt (rw_or (rt_not (rt_tru (re_cb c_isi T.n_isinstance b_isinstance (ra_cons (re_var 5) (ra_cons (re_bltn T.n_list b_list) ra_nil))))) (rw_or (rt_cmp (o_ne (u64 hr)) (re_cb (c_repr hr) T.n_repr b_repr (ra_cons (re_var 5) ra_nil)) (re_var 2)) (rw_or1 (rt_cmp (o_ne (u64 hr)) (re_cb (c_repr hr) T.n_repr b_repr (ra_cons (re_tup (ra_cons (re_var 0) (ra_cons (re_var 1) ra_nil))) ra_nil)) (re_var 3)))))) (rss_one (rs_ret re_bl)) rss_nil)
   (rss_cons (rs_expr (re_mt0 PySem.F.slot_list_reverse PySem.F.type_list_reverse m_reverse (re_var 5)))
   (rss_one (rs_expr (re_mt PySem.F.slot_list_append PySem.F.type_list_append m_append (re_var 5) (ra_cons (re_tup ra_nil) ra_nil))))))))
   (rss_one (rs_ret re_bl))))))
end
end Ln
namespace Ln
open PySem L2 PF
noncomputable def B_law_any_stand : FS :=
  (fSeq (fSet 2 (fOp (gAdd false) (fOp (gAdd false) (fLc false [] 1 (fIt (fOp gIx (fVar 1) (fC (.da (.int 4))))) (.nm 0) fYes (fOp gIx (fVar 0) (fC (.da (.int 0))))) (fLc false [] 1 (fIt (fOp gIx (fVar 1) (fC (.da (.int 4))))) (.nm 0) fYes (fOp gIx (fVar 0) (fC (.da (.int 3)))))) (fLst false (fCons (fOp gIx (fOp gIx (fVar 1) (fC (.da (.int 3)))) (fC (.da (.int 0)))) (fCons (fC (.da (.int 2))) fNil)))))
  (fSeq (fSet 3 (fCB gTuple (fCons (fLc false [0, 1] 1 (fRng (fCons (fOp gIx (fVar 1) (fC (.da (.int 2)))) fNil)) (.nm 0) fYes (fOp gIx (fLst false (fCons (fC (.da (.none))) (fCons (fCall 2 F_law_draw (fCons (fVar 1) (fCons (fOp gIx (fVar 2) (fC (.da (.int 0)))) fNil))) fNil))) (fOp gDiv (fCall 2 F_law_draw (fCons (fVar 1) (fCons (fC (.da (.int 3))) fNil))) (fC (.da (.int 2)))))) fNil)))
  (fSeq (fSet 4 (fCB gTuple (fCons (fLc false [0, 1] 1 (fRng (fCons (fOp gIx (fVar 1) (fC (.da (.int 2)))) fNil)) (.nm 0) fYes (fCall 2 F_law_draw (fCons (fVar 1) (fCons (fOp gIx (fVar 2) (fC (.da (.int 0)))) fNil)))) fNil)))
  (fRet (fTup (fCons (fOp gIx (fVar 2) (fCall 2 F_law_draw (fCons (fVar 0) (fCons (fCB gLen (fCons (fVar 2) fNil)) fNil)))) (fCons (fOp gIx (fLst false (fCons (fVar 3) (fCons (fVar 4) (fCons (fVar 4) fNil)))) (fCall 2 F_law_draw (fCons (fVar 0) (fCons (fC (.da (.int 3))) fNil)))) fNil)))))))
noncomputable def F_law_any_stand : FF := bodyF 5 B_law_any_stand
theorem e_law_any_stand {a0 a1 : D} {s : S} : F_law_any_stand [a0, a1] s = (B_law_any_stand [some a0, some a1, none, none, none] s).bind kBody := rfl
theorem sc_law_any_stand : FnScope ["_law_tape_here", "_law_machine_here", "_law_places", "_law_held", "_law_full"] ["_law_tape_here", "_law_machine_here"] (defScope s__law_any_stand) := ⟨rfl, rfl, rfl, by decide +kernel, rfl, by decide +kernel, by decide +kernel⟩
section
variable {P : Program} {w : World} {K : PySem.W.Frag} {mg : Str -> Option Value} {base : Heap}
theorem ok_law_any_stand (T : Txt0 K mg) : CalF P w K mg base "_law_any_stand" 2 2 F_law_any_stand := by
 have c_law_draw := ok_law_draw (P := P) (w := w) (base := base) T
 exact calF (k := 1) T.h__law_any_stand sc_law_any_stand rfl rfl (fun f cdv A outer s H E hr =>
   (rss_cons (rs_set (i := 2) sc_law_any_stand.nd rfl (Or.inl rfl) (re_op (o_add false) (re_op (o_add false) (re_lc false (own := ["_law_step_here"]) (caps := []) (js := []) rfl rfl rfl rfl rfl (trivial) rfl (ri_any (re_ix (re_var 1) re_int)) (fun _ _ _ _ => (rg_name (i := 0) (show (["_law_step_here"] : List Str).Nodup by decide +kernel) rfl (Or.inl rfl) (Or.inr rfl))) (fun _ _ _ _ => rifs_nil) (fun _ _ _ _ => (re_ix (re_var 0) re_int))) (re_lc false (own := ["_law_step_here"]) (caps := []) (js := []) rfl rfl rfl rfl rfl (trivial) rfl (ri_any (re_ix (re_var 1) re_int)) (fun _ _ _ _ => (rg_name (i := 0) (show (["_law_step_here"] : List Str).Nodup by decide +kernel) rfl (Or.inl rfl) (Or.inr rfl))) (fun _ _ _ _ => rifs_nil) (fun _ _ _ _ => (re_ix (re_var 0) re_int)))) (re_lst false (ra_cons (re_ix (re_ix (re_var 1) re_int) re_int) (ra_cons re_int ra_nil)))))
   (rss_cons (rs_set (i := 3) sc_law_any_stand.nd rfl (Or.inl rfl) (re_ct c_tuple T.n_tuple b_tuple (ra_cons (re_lc false (own := ["_law_k"]) (caps := ["_law_tape_here", "_law_machine_here"]) (js := [0, 1]) rfl rfl rfl rfl rfl (⟨⟨rfl, Or.inr (Or.inl rfl), rfl, rfl⟩, ⟨⟨rfl, Or.inr (Or.inl rfl), rfl, rfl⟩, trivial⟩⟩) rfl (ri_rng T.n_range (ra_cons (re_ix (re_var 1) re_int) ra_nil)) (fun _ _ _ _ => (rg_name (i := 0) (show (["_law_k", "_law_tape_here", "_law_machine_here"] : List Str).Nodup by decide +kernel) rfl (Or.inl rfl) (Or.inr rfl))) (fun _ _ _ _ => rifs_nil) (fun _ _ _ _ => (re_ix (re_lst false (ra_cons re_non (ra_cons (re_c c_law_draw (hr.mono (by decide)) (ra_cons (re_var 1) (ra_cons (re_ix (re_var 2) re_int) ra_nil))) ra_nil))) (re_op o_div (re_c c_law_draw (hr.mono (by decide)) (ra_cons (re_var 1) (ra_cons re_int ra_nil))) re_int)))) ra_nil)))
   (rss_cons (rs_set (i := 4) sc_law_any_stand.nd rfl (Or.inl rfl) (re_ct c_tuple T.n_tuple b_tuple (ra_cons (re_lc false (own := ["_law_k"]) (caps := ["_law_tape_here", "_law_machine_here"]) (js := [0, 1]) rfl rfl rfl rfl rfl (⟨⟨rfl, Or.inr (Or.inl rfl), rfl, rfl⟩, ⟨⟨rfl, Or.inr (Or.inl rfl), rfl, rfl⟩, trivial⟩⟩) rfl (ri_rng T.n_range (ra_cons (re_ix (re_var 1) re_int) ra_nil)) (fun _ _ _ _ => (rg_name (i := 0) (show (["_law_k", "_law_tape_here", "_law_machine_here"] : List Str).Nodup by decide +kernel) rfl (Or.inl rfl) (Or.inr rfl))) (fun _ _ _ _ => rifs_nil) (fun _ _ _ _ => (re_c c_law_draw (hr.mono (by decide)) (ra_cons (re_var 1) (ra_cons (re_ix (re_var 2) re_int) ra_nil))))) ra_nil)))
   (rss_one (rs_ret (re_tup (ra_cons (re_ix (re_var 2) (re_c c_law_draw (hr.mono (by decide)) (ra_cons (re_var 0) (ra_cons (re_cb c_len T.n_len b_len (ra_cons (re_var 2) ra_nil)) ra_nil)))) (ra_cons (re_ix (re_lst false (ra_cons (re_var 3) (ra_cons (re_var 4) (ra_cons (re_var 4) ra_nil)))) (re_c c_law_draw (hr.mono (by decide)) (ra_cons (re_var 0) (ra_cons re_int ra_nil)))) ra_nil)))))))))
end
end Ln
namespace Ln
open PySem L2 PF
noncomputable def Blaw : FS :=
  (fSeq (fSet 1 (fCall 1 F_law_tape (fCons (fVar 0) fNil)))
  (fSeq (fFor (fRng (fCons (fC (.da (.int 4))) fNil)) (.nm 2) (fSeq (fSet 3 (fOp (gAdd false) (fC (.da (.int 1))) (fCall 2 F_law_draw (fCons (fVar 1) (fCons (fC (.da (.int 3))) fNil)))))
  (fSeq (fSet 4 (fCall 4 F_law_machine (fCons (fVar 1) (fCons (fVar 3) (fCons (fCall 2 F_law_names (fCons (fVar 1) (fCons (fCall 2 F_law_draw (fCons (fVar 1) (fCons (fC (.da (.int 6))) fNil))) fNil))) (fCons (fC (.da (.int 5))) fNil))))))
  (fSeq (fSet 5 (fOp gIx (fVar 4) (fC (.da (.int 3)))))
  (fFor (fRng (fCons (fC (.da (.int 4))) fNil)) (.nm 6) (fSeq (fIfS (fOrT (fNotT (fTru (fCall 2 F_law_right (fCons (fVar 4) (fCons (fVar 5) fNil))))) (fNotT (fTru (fCall 2 F_law_right (fCons (fVar 4) (fCons (fCall 2 F_law_any_stand (fCons (fVar 1) (fCons (fVar 4) fNil))) fNil)))))) (fRet (fC (.da (.bool false)))) fNext)
  (fSeq (fSet 7 (fCall 2 F_law_moves (fCons (fVar 4) (fCons (fVar 5) fNil))))
  (fSet 5 (fOp gIx (fOp gIx (fVar 7) (fCall 2 F_law_draw (fCons (fVar 1) (fCons (fCB gLen (fCons (fVar 7) fNil)) fNil)))) (fC (.da (.int 1))))))))))))
  (fRet (fC (.da (.bool true))))))
noncomputable def Flaw : FF := bodyF 8 Blaw
theorem elaw {a0 : D} {s : S} : Flaw [a0] s = (Blaw [some a0, none, none, none, none, none, none, none] s).bind kBody := rfl
theorem sclaw : FnScope ["_law_script", "_law_tape_here", "_law_k", "_law_things", "_law_machine_here", "_law_stand", "_law_j", "_law_some"] ["_law_script"] (defScope s_law) := ⟨rfl, rfl, rfl, by decide +kernel, rfl, by decide +kernel, by decide +kernel⟩
end Ln
local macro_rules | `(tactic| walk_at "ev") => `(tactic| try simp only [PF.e_s2, PF.e_s21, PF.e_s22, PF.e_s23, PF.e_md, PF.e_dct0, PF.e_dctP, PF.e_pcons, PF.e_p1, PF.e_p2, PF.e_p3, PF.e_pnil, PF.e_zipB, PF.zipB_tt, PF.e_lc2, PF.gAdd_int, PF.gLt_int, PF.gGt_int, PF.gGe_int, PF.e_op, PF.e_op1, PF.e_op2, PF.e_c, PF.e_var0, PF.e_var1, PF.e_var2, PF.e_var3, PF.e_var4, PF.e_var5, PF.e_var6, PF.e_var7, PF.e_var8, PF.e_var9, PF.e_var10, PF.e_var11, PF.e_var12, PF.e_seq, PF.e_seqn, PF.e_seqr, PF.e_ret, PF.e_ret1, PF.e_next, PF.e_drop, PF.e_drop1, PF.e_set, PF.e_ifS, PF.e_ifT, PF.e_ifF, PF.e_if, PF.e_ifET, PF.e_ifEF, PF.e_test, PF.e_test1, PF.e_andT, PF.e_orT, PF.e_notT, PF.e_andT1, PF.e_andT0, PF.e_orT1, PF.e_orT0, PF.e_notT1, PF.e_nil, PF.e_vs, PF.e_cons, PF.e_cons1, PF.e_cons2, PF.e_tup, PF.e_lst, PF.tup0, PF.lst0, PF.lst0n, PF.tup1, PF.tup2, PF.tup4, PF.lst1, PF.lst2, PF.lst3, PF.lst4, PF.e_sl, PF.e_sl1, PF.e_sl2, PF.e_sl3, PF.e_no, PF.e_some, PF.e_some1, PF.e_tru, PF.tru_bl, PF.tru_tup, PF.tru_lst, PF.e_cb, PF.e_call, PF.e_call1, PF.e_call2, PF.e_call3, PF.e_call4, PF.e_call5, PF.len_tup, PF.len_lst, PF.list_tupN, PF.tuple_lst, PF.sl_tup, PF.sl_frz, PF.e_bodyr, PF.e_setIt, PF.e_setIt1, PF.e_setIt2, PF.e_setIt3, PF.e_mt, PF.e_mt2, PF.e_frz, PF.e_asg, PF.e_for, PF.e_for1, PF.e_it, PF.it_lst, PF.it_tup, PF.e_rng, PF.loop_nx, PF.loop_ct, PF.loop_bk, PF.loop_rt, PF.e_lc, PF.e_newF, PF.comp_nil, PF.comp_t, PF.comp_f, PF.comp_x, PF.e_yes, PF.R.bind_ok', PF.R.W_ok', PF.R.Wk_app, PF.l_set1, PF.l_set2, PF.l_set3, PF.l_set4, PF.l_set5, PF.l_set6, PF.l_set7, PF.l_set8, PF.l_set9, PF.l_set10, PF.l_set12, Bool.not_true, Bool.not_false, decide_true, decide_false, Bool.and_true, Bool.and_false, Bool.true_and, Bool.false_and, List.length_append, List.length_cons, List.length_nil, List.append_assoc, List.cons_append, List.nil_append, Nat.zero_add, Nat.reduceAdd, PF.tup5, PF.lstN3, PF.kLst_da, PF.kTup_da, Nat.reduceLeDiff, PF.it0, PF.il0, PF.it1, PF.il1, PF.it2, PF.il2, PF.it3, PF.it4, if_true, if_false, Bool.false_eq_true])
local macro_rules | `(tactic| walk_at "go") => `(tactic| ((try simp only [PF.e_s2, PF.e_s21, PF.e_s22, PF.e_s23, PF.e_md, PF.e_dct0, PF.e_dctP, PF.e_pcons, PF.e_p1, PF.e_p2, PF.e_p3, PF.e_pnil, PF.e_zipB, PF.zipB_tt, PF.e_lc2, PF.gAdd_int, PF.gLt_int, PF.gGt_int, PF.gGe_int, PF.e_op, PF.e_op1, PF.e_op2, PF.e_c, PF.e_var0, PF.e_var1, PF.e_var2, PF.e_var3, PF.e_var4, PF.e_var5, PF.e_var6, PF.e_var7, PF.e_var8, PF.e_var9, PF.e_var10, PF.e_var11, PF.e_var12, PF.e_seq, PF.e_seqn, PF.e_seqr, PF.e_ret, PF.e_ret1, PF.e_next, PF.e_drop, PF.e_drop1, PF.e_set, PF.e_ifS, PF.e_ifT, PF.e_ifF, PF.e_if, PF.e_ifET, PF.e_ifEF, PF.e_test, PF.e_test1, PF.e_andT, PF.e_orT, PF.e_notT, PF.e_andT1, PF.e_andT0, PF.e_orT1, PF.e_orT0, PF.e_notT1, PF.e_nil, PF.e_vs, PF.e_cons, PF.e_cons1, PF.e_cons2, PF.e_tup, PF.e_lst, PF.tup0, PF.lst0, PF.lst0n, PF.tup1, PF.tup2, PF.tup4, PF.lst1, PF.lst2, PF.lst3, PF.lst4, PF.e_sl, PF.e_sl1, PF.e_sl2, PF.e_sl3, PF.e_no, PF.e_some, PF.e_some1, PF.e_tru, PF.tru_bl, PF.tru_tup, PF.tru_lst, PF.e_cb, PF.e_call, PF.e_call1, PF.e_call2, PF.e_call3, PF.e_call4, PF.e_call5, PF.len_tup, PF.len_lst, PF.list_tupN, PF.tuple_lst, PF.sl_tup, PF.sl_frz, PF.e_bodyr, PF.e_setIt, PF.e_setIt1, PF.e_setIt2, PF.e_setIt3, PF.e_mt, PF.e_mt2, PF.e_frz, PF.e_asg, PF.e_for, PF.e_for1, PF.e_it, PF.it_lst, PF.it_tup, PF.e_rng, PF.loop_nx, PF.loop_ct, PF.loop_bk, PF.loop_rt, PF.e_lc, PF.e_newF, PF.comp_nil, PF.comp_t, PF.comp_f, PF.comp_x, PF.e_yes, PF.R.bind_ok', PF.R.W_ok', PF.R.Wk_app, PF.l_set1, PF.l_set2, PF.l_set3, PF.l_set4, PF.l_set5, PF.l_set6, PF.l_set7, PF.l_set8, PF.l_set9, PF.l_set10, PF.l_set12, Bool.not_true, Bool.not_false, decide_true, decide_false, Bool.and_true, Bool.and_false, Bool.true_and, Bool.false_and, List.length_append, List.length_cons, List.length_nil, List.append_assoc, List.cons_append, List.nil_append, Nat.zero_add, Nat.reduceAdd, PF.tup5, PF.lstN3, PF.kLst_da, PF.kTup_da, Nat.reduceLeDiff, PF.it0, PF.il0, PF.it1, PF.il1, PF.it2, PF.il2, PF.it3, PF.it4, if_true, if_false, Bool.false_eq_true]); (try simp only [PF.R.W_bindk])))
namespace Ln
open PySem L2 PF
section
variable {s : S} {n : Nat} {a b c v : D}
theorem ix4 (k : Nat) {ds : List D} {x : D} (hl : n < s.length) (h : ds[k]? = some x) : gIx (.ref n) (.int (k : Int)) (s.set n (.lst ds)) = .ok x (s.set n (.lst ds)) := gIx_ref (List.getElem?_set_self hl) h
theorem st4 (k : Nat) {ds : List D} (hl : n < s.length) (h : k < ds.length) : gSet (.ref n) (.int (k : Int)) v (s.set n (.lst ds)) = .ok .non (s.set n (.lst (ds.set k v))) := by
 rw [gSet_ref (List.getElem?_set_self hl) h, List.set_set]
theorem ix0 (hl : n < s.length) : gIx (.ref n) (.int 0) (s.set n (.lst [a, b, c])) = .ok a (s.set n (.lst [a, b, c])) := ix4 0 hl rfl
theorem ix1 (hl : n < s.length) : gIx (.ref n) (.int 1) (s.set n (.lst [a, b, c])) = .ok b (s.set n (.lst [a, b, c])) := ix4 1 hl rfl
theorem ix2 (hl : n < s.length) : gIx (.ref n) (.int 2) (s.set n (.lst [a, b, c])) = .ok c (s.set n (.lst [a, b, c])) := ix4 2 hl rfl
theorem st1 (hl : n < s.length) : gSet (.ref n) (.int 1) v (s.set n (.lst [a, b, c])) = .ok .non (s.set n (.lst [a, v, c])) := st4 1 hl (by simp)
theorem st2 (hl : n < s.length) : gSet (.ref n) (.int 2) v (s.set n (.lst [a, b, c])) = .ok .non (s.set n (.lst [a, b, v])) := st4 2 hl (by simp)
end
structure Fd (s : S) (n c : Nat) : Prop where
 ex : ∃ (xs : List Int) (i j : Int), s[n]? = some (.lst [.lst (xs.map PyData.int), .int i, .int j]) /\ xs.length <= 63 /\ 0 <= i /\ i <= c
theorem Fd.lt {s : S} {n c : Nat} (h : Fd s n c) : n < s.length := by
 obtain ⟨xs, i, j, e, _⟩ := h.ex
 exact (List.getElem?_eq_some_iff.mp e).1
theorem fd_set {s : S} {n c : Nat} {xs : List Int} {i j : Int} (hl : n < s.length) (hx : xs.length <= 63) (hi : 0 <= i) (hc : i <= c) : Fd (s.set n (.lst [.lst (xs.map PyData.int), .int i, .int j])) n c := ⟨xs, i, j, List.getElem?_set_self hl, hx, hi, hc⟩
theorem draw_ok {s : S} {n c : Nat} {m : Int} (h : Fd s n c) (hm : 0 < m) (hm2 : m < 1073741824) (hc : c < 2 ^ 40) : (F_law_draw [.ref n, .int m] s).W fun d s' => ∃ i, d = .int i /\ 0 <= i /\ i < m /\ Fd s' n (c + 1) /\ Same n s s' := by
 obtain ⟨xs, i, j, e, hx, hi, hkc⟩ := h.ex
 have hl : n < s.length := (List.getElem?_eq_some_iff.mp e).1
 have e0 : F_law_draw [.ref n, .int m] s = F_law_draw [.ref n, .int m] (s.set n (.lst [.lst (xs.map PyData.int), .int i, .int j])) := by rw [set_self e]
 rw [e0, e_law_draw]; unfold B_law_draw
 have fin : ∀ x : Int, 0 <= x % m /\ x % m < m := fun x => ⟨Int.emod_nonneg _ (by omega), Int.emod_lt_of_pos _ hm⟩
 have p18 : ∀ s : S, gPow (.int 10) (.int 18) s = .ok (.int 1000000000000000000) s := fun s => gPow_int (by decide) (by decide) (by decide)
 by_cases hj : 0 < j
 ·simp [ix0 hl, ix1 hl, ix2 hl, st1 hl, st2 hl, hj, gMod_int hm, gDiv_int hm hm2]
  exact ⟨(fin _).1, (fin _).2, fd_set hl hx hi (by omega), same_set⟩
 ·have q1 : ∀ (x : Int) (s : S), gMod (.int x) (.int 1000003) s = .ok (.int (x % 1000003)) s := fun x s => gMod_int (by decide)
  have q2 : ∀ (x : Int) (s : S), gMul (.int 37) (.int x) s = .ok (.int (37 * x)) s := fun x s => gMul_int (.inl (by decide))
  have q3 : ∀ (x : Int) (s : S), gMul (.int x) (.int 69621) s = .ok (.int (x * 69621)) s := fun x s => gMul_int (.inr (by decide))
  have q4 : ∀ (x : Int) (s : S), gMod (.int x) (.int 2147483549) s = .ok (.int (x % 2147483549)) s := fun x s => gMod_int (by decide)
  have q5 : ∀ (x : Int) (s : S), gMul (.int 101) (.int x) s = .ok (.int (101 * x)) s := fun x s => gMul_int (.inl (by decide))
  have q6 : ∀ (x : Int) (s : S), gMul (.int 7919) (.int x) s = .ok (.int (7919 * x)) s := fun x s => gMul_int (.inl (by decide))
  have q7 : ∀ (x : Int) (s : S), gMul (.int x) (.int i) s = .ok (.int (x * i)) s := fun x s => gMul_int (.inr (by omega))
  have q8 : ∀ (x : Int) (s : S), gMul (.int x) (.int 48271) s = .ok (.int (x * 48271)) s := fun x s => gMul_int (.inr (by decide))
  have q9 : ∀ (x : Int) (s : S), gMod (.int x) (.int 2147483587) s = .ok (.int (x % 2147483587)) s := fun x s => gMod_int (by decide)
  have q10 : ∀ (x : Int) (s : S), gDiv (.int x) (.int 64) s = .ok (.int (x / 64)) s := fun x s => gDiv_int (by decide) (by decide)
  cases hxs : xs with
  | nil =>
   subst hxs
   simp [ix0 hl, ix1 hl, ix2 hl, st1 hl, st2 hl, hj, gMod_int hm, gDiv_int hm hm2, p18, q1, q2, q3, q4, q5, q6, q7, q8, q9, q10]
   exact ⟨(fin _).1, (fin _).2, fd_set (xs := []) hl (by simp) (by omega) (by omega), same_set⟩
  | cons y ys =>
   have hne : xs ≠ [] := by rw [hxs]; simp
   have hlen : 0 < (xs.length : Int) := by rw [hxs]; simp
   have hlen2 : 0 < xs.length := by rw [hxs]; simp
   rw [← hxs]
   have ixx : ∀ s : S, gIx (.lst (xs.map PyData.int)) (.int (i % (xs.length : Int))) s = .ok (.int (xs.getD (i % (xs.length : Int)).toNat 0)) s := fun s => by
    have h0 := Int.emod_nonneg i (show (xs.length : Int) ≠ 0 by omega)
    have h1 := Int.emod_lt_of_pos i hlen
    obtain ⟨q, hq⟩ : ∃ q : Nat, i % (xs.length : Int) = q := ⟨(i % (xs.length : Int)).toNat, by omega⟩
    rw [hq]
    have hlt : q < xs.length := by omega
    rw [gIx_lst (p := .int (xs.getD q 0)) (by rw [List.getElem?_map, List.getElem?_eq_getElem hlt, List.getD_eq_getElem?_getD, List.getElem?_eq_getElem hlt]; rfl)]
    rfl
   generalize hcell : xs.getD (i % (xs.length : Int)).toNat 0 = cell at ixx
   have qm : ∀ s : S, gMod (.int i) (.int (xs.length : Int)) s = .ok (.int (i % (xs.length : Int))) s := fun s => gMod_int hlen
   by_cases hb : 1000000000000000000 <= cell
   ·simp [ix0 hl, ix1 hl, ix2 hl, st1 hl, st2 hl, hj, hlen2, gMod_int hm, gDiv_int hm hm2, p18, q1, q2, q3, q4, q5, q6, q7, q8, q9, q10, ixx, qm, hb]
    exact ⟨(fin _).1, (fin _).2, fd_set hl hx (by omega) (by omega), same_set⟩
   ·simp [ix0 hl, ix1 hl, ix2 hl, st1 hl, st2 hl, hj, hlen2, gMod_int hm, gDiv_int hm hm2, p18, q1, q2, q3, q4, q5, q6, q7, q8, q9, q10, ixx, qm, hb]
    exact ⟨(fin _).1, (fin _).2, fd_set hl hx (by omega) (by omega), same_set⟩
theorem Fd.le {s : S} {n c c' : Nat} (h : Fd s n c) (hc : c <= c') : Fd s n c' := by
 obtain ⟨xs, i, j, e, hx, hi, hkc⟩ := h.ex
 exact ⟨xs, i, j, e, hx, hi, by omega⟩
theorem Fd.ext {s s' : S} {n c : Nat} (h : Fd s n c) (x : Ext s s') : Fd s' n c := by
 obtain ⟨xs, i, j, e, r⟩ := h.ex
 exact ⟨xs, i, j, x.get e, r⟩
theorem Fd.set {s : S} {n c k : Nat} {o : O} (h : Fd s n c) (hk : k ≠ n) : Fd (s.set k o) n c := by
 obtain ⟨xs, i, j, e, r⟩ := h.ex
 exact ⟨xs, i, j, by rw [List.getElem?_set_ne hk]; exact e, r⟩
theorem tape_ok {s : S} {xs : List Int} : (F_law_tape [.frz (xs.map PyData.int)] s).W fun d s' => d = .ref s.length /\ Fd s' s.length 0 /\ Ext s s' := by
 rw [e_law_tape]; unfold B_law_tape
 walk_at "go"
 have e : cutL (xs.map PyData.int) none (some 63) = (cutL xs none (some 63)).map PyData.int := cutL_map _ _ _ _
 rw [e]
 refine ⟨trivial, ⟨⟨cutL xs none (some 63), 0, 0, by simp, ?_, by decide, by decide⟩⟩, Ext.add _ _⟩
 unfold cutL
 rw [show (63 : Int) = ((63 : Nat) : Int) from rfl, HT.sIx_nat]
 simp
 omega
end Ln
namespace Ln
open PySem L2 PF
inductive Sp where
 | port (x : Str)
 | box (k : Nat)
 | nxt (k : Nat)
def Sp.d : Sp -> PyData
 | .port x => .tuple [.str "port", .str x]
 | .box k => .tuple [.str "box", .int k]
 | .nxt k => .tuple [.str "next", .int k]
def Sp.w : Sp -> Str
 | .port _ => "port"
 | .box _ => "box"
 | .nxt _ => "next"
def Sp.a : Sp -> PyData
 | .port x => .str x
 | .box k => .int k
 | .nxt k => .int k
theorem Sp.eq (p : Sp) : p.d = .tuple [.str p.w, p.a] := by cases p <;> rfl
structure Ti where
 sp : List Sp
 told : List Int
def Ti.d (t : Ti) : PyData := .tuple [.tuple (t.sp.map Sp.d), .tuple (t.told.map PyData.int)]
structure Stp where
 a : Int
 ps : List PyData
 ts : List Ti
 b : Int
def Stp.d (t : Stp) : PyData := .tuple [.int t.a, .tuple t.ps, .tuple (t.ts.map Ti.d), .int t.b]
def hD : Option Int -> PyData
 | none => .none
 | some i => .int i
abbrev Hd := List (Option Int)
def hdD (h : Hd) : PyData := .tuple (h.map hD)
theorem eqv_i (t : Int) (h : Option Int) : PyData.eqv (.int t) (hD h) = decide (h = some t) := by
 cases h with
 | none => rfl
 | some i =>
  show (t == i) = _
  (rw [Bool.eq_iff_iff, beq_iff_eq, decide_eq_true_eq])
  exact ⟨fun e => by rw [e], fun e => by cases e; rfl⟩
theorem eqv_h (t : Int) (h : Option Int) : PyData.eqv (hD h) (.int t) = decide (h = some t) := by
 cases h with
 | none => rfl
 | some i =>
  show (i == t) = _
  (rw [Bool.eq_iff_iff, beq_iff_eq, decide_eq_true_eq])
  exact ⟨fun e => by rw [e], fun e => by cases e; rfl⟩
theorem okD_h (h : Option Int) : okD (hD h) = true := by cases h <;> rfl
def okB (h : Hd) (t : Int) : Sp -> Bool
 | .box k => decide (h.getD k none = some t)
 | _ => true
def inB (b : Nat) : Sp -> Bool
 | .port _ => true
 | .box k => decide (k < b)
 | .nxt k => decide (k < b)
def tf (h : Hd) (t : Ti) : List Int := t.told.filter fun x => t.sp.all (okB h x)
def sq (c : Bool) (l : List Int) : D := if c = true then .lst (l.map PyData.int) else .tup (l.map PyData.int)
theorem it_sq {c : Bool} {l : List Int} {s : S} : gIter (sq c l) s = .ok (l.map (fun i => D.int i), none) s := by
 cases c
 ·show R.ok ((l.map PyData.int).map D.da, none) s = _
  rw [List.map_map]; rfl
 ·show R.ok ((l.map PyData.int).map D.da, none) s = _
  rw [List.map_map]; rfl
theorem tru_sq {c : Bool} {l : List Int} {s : S} : gTru (sq c l) s = .ok (!l.isEmpty) s := by
 cases c
 ·show gTru (.tup (l.map PyData.int)) s = _
  rw [tru_tup]; cases l <;> rfl
 ·show gTru (.lst (l.map PyData.int)) s = _
  rw [tru_lst]; cases l <;> rfl
theorem ix_hd {h : Hd} {k : Nat} {s : S} (hk : k < h.length) : gIx (.da (hdD h)) (.int (k : Int)) s = .ok (.da (hD (h.getD k none))) s :=
 gIx_tup (by rw [List.getElem?_map, List.getElem?_eq_getElem hk, List.getD_eq_getElem?_getD, List.getElem?_eq_getElem hk]; rfl)
noncomputable def tfB : FS := (fIfS (fTest (fOp gEq (fVar 5) (fC (.da (.str "box"))))) (fSet 4 (fLc false [1, 6] 1 (fIt (fVar 4)) (.nm 0) (fTest (fOp gEq (fVar 0) (fOp gIx (fVar 1) (fVar 2)))) (fVar 0))) (fIfS (fAndT (fTest (fOp gEq (fVar 5) (fC (.da (.str "port"))))) (fTest (fOp (gIn2 false) (fVar 6) (fVar 2)))) (fSet 4 (fLc false [2, 6] 1 (fIt (fVar 4)) (.nm 0) (fTest (fOp gEq (fVar 0) (fOp gIx2 (fVar 1) (fVar 2)))) (fVar 0))) fNext))
theorem tf_body {h : Hd} {m : Nat} {s : S} {tie sps : D} {l : List Int} {c : Bool} (hp : s[m]? = some (.dct [])) (p : Sp) (hk : inB h.length p = true) (hl : l.length <= 1000) :
  ∃ c', tfB [some tie, some (.da (hdD h)), some (.ref m), some sps, some (sq c l), some (.str p.w), some (.da p.a)] s = .ok (.nx [some tie, some (.da (hdD h)), some (.ref m), some sps, some (sq c' (l.filter fun t => okB h t p)), some (.str p.w), some (.da p.a)]) s := by
 have w0 : ∀ (l : List Int), l.filter (fun t => true) = l := fun l => by simp
 unfold tfB
 cases p with
 | port x =>
  refine ⟨c, ?_⟩
  have e1 : gEq (.str (Sp.port x).w) (.str "box") s = .ok (.bl false) s := rfl
  have e2 : gEq (.str (Sp.port x).w) (.str "port") s = .ok (.bl true) s := rfl
  have e3 : gIn2 false (.da (Sp.port x).a) (.ref m) s = .ok (.bl false) s := in2_ref hp rfl
  walk_at "ev"
  simp only [e1, e2, e3]
  walk_at "ev"
  simp only [e1, e2, e3]
  walk_at "ev"
  simp only [e3]
  walk_at "ev"
  rw [show (fun t => okB h t (.port x)) = fun _ => true from rfl, w0]
 | nxt k =>
  refine ⟨c, ?_⟩
  have e1 : gEq (.str (Sp.nxt k).w) (.str "box") s = .ok (.bl false) s := rfl
  have e2 : gEq (.str (Sp.nxt k).w) (.str "port") s = .ok (.bl false) s := rfl
  walk_at "ev"
  simp only [e1, e2]
  walk_at "ev"
  simp only [e1, e2]
  walk_at "ev"
  rw [show (fun t => okB h t (.nxt k)) = fun _ => true from rfl, w0]
 | box k =>
  refine ⟨true, ?_⟩
  have e1 : gEq (.str (Sp.box k).w) (.str "box") s = .ok (.bl true) s := rfl
  have hk' : k < h.length := of_decide_eq_true hk
  walk_at "ev"
  simp only [e1]
  walk_at "ev"
  rw [it_sq]
  walk_at "ev"
  rw [e_lc1 (ρ0 := [none, some (.da (hdD h)), some (.da (Sp.box k).a)]) (by rw [List.length_map]; omega) rfl]
  rw [comp_da (fun i => D.int i) (fun t => okB h t (.box k)) PyData.int l fun t ht => ⟨[some (.int t), some (.da (hdD h)), some (.da (Sp.box k).a)], rfl, by
   walk_at "ev"
   have e4 := ix_hd (s := s) hk'
   rw [show (D.da (Sp.box k).a) = .int (k : Int) from rfl, e4]
   walk_at "ev"
   rw [gEq_da rfl (okD_h _), eqv_i]
   rfl, fun _ => rfl⟩]
  walk_at "ev"
  rfl
theorem tf_loop {h : Hd} {m : Nat} {s : S} {tie sps : D} {all : List D} (hp : s[m]? = some (.dct [])) : ∀ (sp : List Sp) (l : List Int) (c : Bool) (u w : Option D), (∀ p ∈ sp, inB h.length p = true) -> l.length <= 1000 ->
  ∃ c' u' w', loopF (.t2 (.nm 5) (.nm 6)) tfB (all, none) ((sp.map Sp.d).map D.da) [some tie, some (.da (hdD h)), some (.ref m), some sps, some (sq c l), u, w] s = .ok (.nx [some tie, some (.da (hdD h)), some (.ref m), some sps, some (sq c' (l.filter fun t => sp.all (okB h t))), u', w']) s
 | [], l, c, u, w, _, _ => ⟨c, u, w, by
  rw [show (fun t => ([] : List Sp).all (okB h t)) = fun _ => true from rfl, show l.filter (fun _ => true) = l by simp]; rfl⟩
 | p :: r, l, c, u, w, hb, hl => by
  obtain ⟨c1, e1⟩ := tf_body (h := h) (tie := tie) (sps := sps) (c := c) hp p (hb p List.mem_cons_self) hl
  obtain ⟨c2, u2, w2, e2⟩ := tf_loop (h := h) (tie := tie) (sps := sps) (all := all) hp r (l.filter fun t => okB h t p) c1 (some (.str p.w)) (some (.da p.a)) (fun q hq => hb q (List.mem_cons_of_mem _ hq)) (Nat.le_trans (List.length_filter_le _ _) hl)
  refine ⟨c2, u2, w2, ?_⟩
  rw [List.map_cons, List.map_cons, loop_cons (ρ1 := [some tie, some (.da (hdD h)), some (.ref m), some sps, some (sq c l), some (.str p.w), some (.da p.a)]) (by rw [Sp.eq]; rfl), e1, R.bind_ok, loop_nx, e2]
  rw [List.filter_filter]
  congr 5
  congr 1
  congr 1
  refine congrArg (fun z => some (sq c2 z)) (List.filter_congr fun t _ => ?_)
  rw [List.all_cons, Bool.and_comm]
theorem things_ok {h : Hd} {m : Nat} {s : S} {t : Ti} (hp : s[m]? = some (.dct [])) (hb : ∀ p ∈ t.sp, inB h.length p = true) (hl : t.told.length <= 1000) : ∃ c, Fthings_for [.da t.d, .da (hdD h), .ref m] s = .ok (sq c (tf h t)) s := by
 obtain ⟨c, u, w, e⟩ := tf_loop (h := h) (tie := .da t.d) (sps := .tup (t.sp.map Sp.d)) (all := (t.sp.map Sp.d).map D.da) hp t.sp t.told false none none hb hl
 refine ⟨c, ?_⟩
 rw [ethings_for]; unfold Bthings_for
 walk_at "ev"
 rw [e_asg1 (ρ1 := [some (.da t.d), some (.da (hdD h)), some (.ref m), some (.tup (t.sp.map Sp.d)), some (sq false t.told), none, none]) rfl]
 walk_at "ev"
 have e' := e
 unfold tfB at e'
 rw [e']
 walk_at "ev"
 rfl
end Ln
namespace Ln
open PySem L2 PF
theorem get_app {s g : S} {o : O} : (s ++ o :: g)[s.length]? = some o := by simp
theorem set_app {s g : S} {o o' : O} : (s ++ o :: g).set s.length o' = s ++ o' :: g := by simp
theorem loop_invS {g : Tg} {fb : FS} {p : Wk} {Q : Fl -> S -> Prop} (J : List D -> En -> S -> Prop) (src : ∀ r ρ s, J r ρ s -> SrcOk p s)
  (step : ∀ d r ρ s, J (d :: r) ρ s -> ∃ ρ1, setD g d ρ = some ρ1 /\ (fb ρ1 s).W (flW (J r) Q)) (fin : ∀ ρ s, J [] ρ s -> Q (.nx ρ) s) :
  ∀ (ds : List D) (ρ : En) (s : S), J ds ρ s -> (loopF g fb p ds ρ s).W Q
 | [], ρ, s, h => fin ρ s h
 | d :: r, ρ, s, h => by
  obtain ⟨ρ1, e, w⟩ := step d r ρ s h
  rw [loop_cons e, R.W_bind]
  refine R.W_mono w fun fl s1 q => ?_
  cases fl with
  | nx ρ2 =>
   have q : J r ρ2 s1 := q
   rw [show kLoop g fb p r (.nx ρ2) s1 = loopF g fb p r ρ2 s1 from chk_pos (src _ _ _ q)]; exact loop_invS J src step fin r ρ2 s1 q
  | ct ρ2 =>
   have q : J r ρ2 s1 := q
   rw [show kLoop g fb p r (.ct ρ2) s1 = loopF g fb p r ρ2 s1 from chk_pos (src _ _ _ q)]; exact loop_invS J src step fin r ρ2 s1 q
  | bk ρ2 => rw [loop_bk]; exact q
  | rt d => rw [loop_rt]; exact q
def prod : List (List Int) -> List (List Int)
 | [] => [[]]
 | c :: cs => c.flatMap fun t => (prod cs).map (t :: ·)
def ext1 (W : List (List Int)) (l : List Int) : List (List Int) := W.flatMap fun w => l.map fun t => w ++ [t]
theorem ext1_fold (cs : List (List Int)) : ∀ W : List (List Int), cs.foldl ext1 W = W.flatMap fun w => (prod cs).map (w ++ ·) := by
 induction cs with
 | nil => intro W; simp [prod]
 | cons c r ih =>
  intro W
  rw [List.foldl_cons, ih]
  rw [show prod (c :: r) = c.flatMap fun t => (prod r).map (t :: ·) from rfl]
  unfold ext1
  rw [List.flatMap_assoc]
  congr 1
  funext w
  rw [List.flatMap_map, List.map_flatMap]
  congr 1
  funext t
  rw [List.map_map]
  (refine List.map_congr_left fun x _ => ?_)
  simp
theorem prod_fold (cs : List (List Int)) : cs.foldl ext1 [[]] = prod cs := by
 rw [ext1_fold]; simp
theorem prod_nil {cs : List (List Int)} (h : [] ∈ cs) : prod cs = [] := by
 induction cs with
 | nil => cases h
 | cons c r ih =>
  unfold prod
  rcases List.mem_cons.mp h with z | z
  ·rw [← z]; rfl
  ·rw [ih z]; simp
theorem flat_len {α β : Type} {f : α -> List β} {k : Nat} : ∀ (l : List α), (∀ x ∈ l, (f x).length <= k) -> (l.flatMap f).length <= l.length * k
 | [], _ => by simp
 | x :: r, h => by
  have := flat_len r fun y hy => h y (List.mem_cons_of_mem _ hy)
  have h0 := h x List.mem_cons_self
  rw [List.flatMap_cons, List.length_append, List.length_cons, Nat.add_mul]
  omega
theorem ext1_len {W : List (List Int)} {l : List Int} (h : l.length <= 3) : (ext1 W l).length <= W.length * 3 := flat_len W fun w _ => by rw [List.length_map]; exact h
theorem prod_len {cs : List (List Int)} (h : ∀ c ∈ cs, c.length <= 3) : (prod cs).length <= 3 ^ cs.length := by
 induction cs with
 | nil => exact Nat.le_refl _
 | cons c r ih =>
  have h1 := ih fun x hx => h x (List.mem_cons_of_mem _ hx)
  have h2 := h c List.mem_cons_self
  have h3 := flat_len (f := fun t => (prod r).map (t :: ·)) c fun t _ => by rw [List.length_map]; exact h1
  have h4 : c.length * 3 ^ r.length <= 3 * 3 ^ r.length := Nat.mul_le_mul_right _ h2
  rw [List.length_cons, Nat.pow_succ]
  unfold prod
  omega
theorem prod_each {cs : List (List Int)} : ∀ w ∈ prod cs, w.length = cs.length := by
 induction cs with
 | nil => intro w hw; simp [prod] at hw; rw [hw]; rfl
 | cons c r ih =>
  intro w hw
  unfold prod at hw
  obtain ⟨t, _, hw⟩ := List.mem_flatMap.mp hw
  obtain ⟨v, hv, rfl⟩ := List.mem_map.mp hw
  simp [ih v hv]
def wD (w : List Int) : PyData := .tuple (w.map PyData.int)
def lsD (W : List (List Int)) : D := .lst (W.map wD)
structure TiOk (b : Nat) (t : Ti) : Prop where
 sp : ∀ p ∈ t.sp, inB b p = true
 few : t.told.length <= 3
theorem tf_few {b : Nat} {h : Hd} {t : Ti} (k : TiOk b t) : (tf h t).length <= 3 := Nat.le_trans (List.length_filter_le _ _) k.few
structure ChJ (h : Hd) (m : Nat) (st : Stp) (s : S) (r : List D) (ρ : En) (s' : S) : Prop where
 ex : ∃ (ts rs : List Ti) (cs : List Bool) (u w : Option D), st.ts = ts ++ rs /\ r = (rs.map Ti.d).map D.da /\ cs.length = ts.length /\ (∀ t ∈ ts, tf h t ≠ []) /\
  ρ = [some (.da st.d), some (.da (hdD h)), some (.ref m), some (.ref s.length), u, w, none] /\ s' = s ++ [.lst ((cs.zip ts).map fun p => sq p.1 (tf h p.2))]
structure WaJ (h : Hd) (m : Nat) (st : Stp) (s : S) (all : List D) (r : List D) (ρ : En) (s' : S) : Prop where
 ex : ∃ (ls rs : List (List Int)) (cs : List Bool) (u w : Option D), st.ts.map (tf h) = ls ++ rs /\ cs.length = rs.length /\ r = (cs.zip rs).map (fun p => sq p.1 p.2) /\
  ρ = [some (.da st.d), some (.da (hdD h)), some (.ref m), some (.ref s.length), u, w, some (lsD (ls.foldl ext1 [[]]))] /\ s' = s ++ [.lst all]
theorem ways_len {ls : List (List Int)} (h : ∀ l ∈ ls, l.length <= 3) (hn : ls.length <= 3) : (ls.foldl ext1 [[]]).length <= 27 := by
 rw [prod_fold]
 refine Nat.le_trans (prod_len h) ?_
 calc 3 ^ ls.length <= 3 ^ 3 := Nat.pow_le_pow_right (by decide) hn
  _ = 27 := by decide
theorem ways_turn {s : S} {W : List (List Int)} {l : List Int} {c : Bool} {ρ : En} (hW : W.length <= 27) (hw : ∀ w ∈ W, w.length <= 3) (hl : l.length <= 3) (e : capD ρ [5] = [some (sq c l)]) :
  (kLc2 false [5] 2 (.nm 0) fYes (fIt (fVar 2)) (.nm 1) fYes (fOp (gAdd false) (fVar 0) (fTup (fCons (fVar 1) fNil))) ρ ((W.map wD).map D.da, none) s).W fun d s' => d = lsD (ext1 W l) /\ s' = s := by
 rw [e_lc21 (ρ0 := [none, none, some (sq c l)]) (by rw [e]; rfl), R.W_bind]
 refine R.W_mono (comp2_inv (Q := fun xs s' => s' = s /\ xs = ((ext1 W l).map wD).map D.da) (fun r acc s' => ∃ V U, W = V ++ U /\ r = (U.map wD).map D.da /\ acc = ((ext1 V l).map wD).map D.da /\ s' = s) ?_ ?_ _ [] s ⟨[], W, rfl, rfl, rfl, rfl⟩) fun xs s' q => ?_
 ·rintro d r acc s' ⟨V, U, hV, hr, ha, rfl⟩
  cases U with
  | nil => cases hr
  | cons u U =>
   rw [List.map_cons, List.map_cons, List.cons.injEq] at hr
   obtain ⟨rfl, rfl⟩ := hr
   refine ⟨[some (.da (wD u)), none, some (sq c l)], rfl, rfl, ?_⟩
   rw [e_yes, R.W_ok, if_pos rfl]
   have e3 : fIt (fVar 2) [some (.da (wD u)), none, some (sq c l)] s' = .ok (l.map (fun i => D.int i), none) s' := by
    walk_at "ev"
    exact it_sq
   rw [e3, R.W_ok]
   refine ⟨rfl, ?_⟩
   have hu : u.length <= 3 := hw u (by rw [hV]; simp)
   rw [comp_da (fun i => D.int i) (fun _ => true) (fun t => wD (u ++ [t])) l fun t _ => ⟨[some (.da (wD u)), some (.int t), some (sq c l)], rfl, rfl, fun _ => by
    walk_at "ev"
    show gAdd false (.tup (u.map PyData.int)) (.tup [.int t]) s' = _
    rw [gAdd_tup (by simp; omega)]
    show R.ok (D.da (.tuple (u.map PyData.int ++ [.int t]))) s' = R.ok (D.da (.tuple ((u ++ [t]).map PyData.int))) s'
    rw [List.map_append]; rfl⟩, R.W_ok]
   refine ⟨V ++ [u], U, by rw [hV]; simp, rfl, ?_, rfl⟩
   rw [ha]
   have e4 : ext1 (V ++ [u]) l = ext1 V l ++ l.map (fun t => u ++ [t]) := by unfold ext1; simp
   rw [e4, show l.filter (fun _ => true) = l by simp]
   simp
 ·rintro acc s' ⟨V, U, hV, hr, ha, rfl⟩
  cases U with
  | nil => rw [List.append_nil] at hV; subst hV; exact ⟨rfl, ha⟩
  | cons u U => cases hr
 ·obtain ⟨rfl, q⟩ := q
  rw [List.nil_append] at q
  subst q
  have hb := ext1_len (W := W) hl
  rw [finL_da (by rw [List.length_map]; omega), R.W_ok]
  exact ⟨rfl, rfl⟩
noncomputable def chB : FS := (fSeq (fSet 5 (fCall 3 Fthings_for (fCons (fVar 4) (fCons (fVar 1) (fCons (fVar 2) fNil)))))
  (fSeq (fIfS (fNotT (fTru (fVar 5))) (fRet (fLst false fNil)) fNext)
  (fDrop (fMt gAppend (fVar 3) (fCons (fVar 5) fNil)))))
noncomputable def waB : FS := (fSet 6 (fLc2 false [5] 2 (fIt (fVar 6)) (.nm 0) fYes (fIt (fVar 2)) (.nm 1) fYes (fOp (gAdd false) (fVar 0) (fTup (fCons (fVar 1) fNil)))))
theorem doings_ok {h : Hd} {m : Nat} {s : S} {st : Stp} (hp : s[m]? = some (.dct [])) (hb : ∀ t ∈ st.ts, TiOk h.length t) (hn : st.ts.length <= 3) : (Fdoings [.da st.d, .da (hdD h), .ref m] s).W fun d s' => d = lsD (prod (st.ts.map (tf h))) /\ Ext s s' := by
 have hm : m < s.length := (List.getElem?_eq_some_iff.mp hp).1
 rw [edoings]; unfold Bdoings
 walk_at "go"
 rw [show gIx (.da st.d) (.int 2) (s ++ [O.lst []]) = .ok (.tup (st.ts.map Ti.d)) (s ++ [O.lst []]) from it2]
 walk_at "go"
 show (loopF (.nm 4) chB _ _ _ _).W _
 refine loop_inv (ChJ h m st s) ?_ ?_ _ _ _ ⟨[], st.ts, [], none, none, rfl, rfl, rfl, (fun t ht => by cases ht), rfl, rfl⟩
 ·rintro d r ρ s' ⟨ts, rs, cs, u, w, e1, e2, e3, e4, rfl, rfl⟩
  cases rs with
  | nil => cases e2
  | cons t rs =>
   rw [List.map_cons, List.map_cons, List.cons.injEq] at e2
   obtain ⟨rfl, rfl⟩ := e2
   refine ⟨_, rfl, ?_⟩
   simp only [List.set_cons_succ, List.set_cons_zero]
   have ht : TiOk h.length t := hb t (by rw [e1]; simp)
   have hp' : (s ++ [O.lst ((cs.zip ts).map fun p => sq p.1 (tf h p.2))])[m]? = some (.dct []) := by rw [List.getElem?_append_left hm]; exact hp
   obtain ⟨c, ec⟩ := things_ok (h := h) (t := t) hp' ht.sp (Nat.le_trans ht.few (by decide))
   unfold chB
   walk_at "go"
   rw [ec]
   walk_at "go"
   rw [tru_sq]
   cases hf : tf h t with
   | nil =>
    walk_at "go"
    show (fun d s' => d = lsD (prod (st.ts.map (tf h))) /\ Ext s s') (.lst []) _
    refine ⟨?_, Ext.add _ _⟩
    rw [prod_nil (List.mem_map.mpr ⟨t, by rw [e1]; simp, hf⟩)]; rfl
   | cons y ys =>
    walk_at "go"
    rw [show (!!(y :: ys).isEmpty) = false from rfl]
    walk_at "go"
    have hz : (cs.zip ts).length <= 3 := by
     have := congrArg List.length e1
     rw [List.length_append] at this
     rw [List.length_zip]; omega
    rw [e_mt1 get_app]
    walk_at "go"
    rw [append_ok get_app (by rw [List.length_map]; omega)]
    walk_at "go"
    refine ⟨ts ++ [t], rs, cs ++ [c], _, _, by rw [e1]; simp, rfl, by simp [e3], fun x hx => ?_, rfl, ?_⟩
    ·rcases List.mem_append.mp hx with z | z
     ·exact e4 x z
     ·rw [List.mem_singleton.mp z, hf]; simp
    ·rw [set_app, List.zip_append e3]
     simp [hf]
 ·rintro ρ s' ⟨ts, rs, cs, u, w, e1, e2, e3, e4, rfl, rfl⟩
  cases rs with
  | cons t rs => cases e2
  | nil =>
   rw [List.append_nil] at e1
   subst e1
   generalize hall : (cs.zip st.ts).map (fun p => sq p.1 (tf h p.2)) = all
   have hall' : all = (cs.zip (st.ts.map (tf h))).map fun p => sq p.1 p.2 := by
    rw [← hall, List.zip_map_right, List.map_map]; rfl
   walk_at "go"
   rw [it_ref get_app]
   walk_at "go"
   show (kFor (.nm 5) waB _ (all, some s.length) _).W _
   rw [show ∀ ρ s2, kFor (.nm 5) waB ρ (all, some s.length) s2 = chk (all, some s.length) s2 (loopF (.nm 5) waB (all, some s.length) all ρ s2) from fun _ _ => rfl]
   rw [chk_pos (show SrcOk (all, some s.length) (s ++ [O.lst all]) from get_app)]
   refine loop_invS (WaJ h m st s all) ?_ ?_ ?_ _ _ _ ⟨[], st.ts.map (tf h), cs, u, w, rfl, by simp [e3], hall', rfl, rfl⟩
   ·rintro r ρ s' ⟨ls, rs, cs, u, w, _, _, _, _, rfl⟩
    exact get_app
   ·rintro d r ρ s' ⟨ls, rs, cs, u, w, f1, f2, f3, rfl, rfl⟩
    cases rs with
    | nil => simp at f3
    | cons l rs =>
     cases cs with
     | nil => simp at f2
     | cons c cs =>
      rw [List.zip_cons_cons, List.map_cons, List.cons.injEq] at f3
      obtain ⟨rfl, rfl⟩ := f3
      refine ⟨_, rfl, ?_⟩
      simp only [List.set_cons_succ, List.set_cons_zero]
      have hls : ∀ x ∈ ls ++ l :: rs, x.length <= 3 := fun x hx => by
       rw [← f1] at hx
       obtain ⟨t, ht, rfl⟩ := List.mem_map.mp hx
       exact tf_few (hb t ht)
      have hlen : ls.length <= 3 := by
       have := congrArg List.length f1
       simp at this
       omega
      unfold waB
      walk_at "go"
      rw [show ∀ W s2, gIter (lsD W) s2 = .ok ((W.map wD).map D.da, none) s2 from fun _ _ => rfl]
      walk_at "go"
      refine R.W_mono (ways_turn (W := ls.foldl ext1 [[]]) (l := l) (c := c) (ways_len (fun x hx => hls x (by simp [hx])) hlen) (fun v hv => ?_) (hls l (by simp)) rfl) ?_
      ·rw [prod_fold] at hv
       rw [prod_each v hv]; exact hlen
      ·rintro _ s2 ⟨rfl, rfl⟩
       walk_at "go"
       exact ⟨ls ++ [l], rs, cs, _, _, by rw [f1]; simp, by simpa using f2, rfl, by rw [List.foldl_append]; rfl, rfl⟩
   ·rintro ρ s' ⟨ls, rs, cs, u, w, f1, f2, f3, rfl, rfl⟩
    cases rs with
    | cons l rs =>
     cases cs with
     | nil => simp at f2
     | cons c cs => cases f3
    | nil =>
     walk_at "go"
     rw [List.append_nil] at f1
     rw [← f1, prod_fold]
     exact ⟨rfl, Ext.add _ _⟩
end Ln
namespace Ln
open PySem L2 PF
def okPt : Sp -> Bool
 | .port x => okPort x
 | _ => true
structure TiN (b : Nat) (t : Ti) : Prop extends TiOk b t where
 pt : ∀ p ∈ t.sp, okPt p = true
 l9 : t.sp.length <= 9
 ti : ∀ x ∈ t.told, 0 <= x /\ x < 3
theorem nice_w (p : Sp) : Nice 20 0 (.str p.w) := nice_str (by
 have : okPort "port" = true /\ okPort "box" = true /\ okPort "next" = true := by decide +kernel
 cases p
 ·exact this.1
 ·exact this.2.1
 ·exact this.2.2)
theorem nice_a {b : Nat} (hb : b <= 1000) {p : Sp} (h1 : inB b p = true) (h2 : okPt p = true) : Nice 20 0 p.a := by
 cases p with
 | port x => exact nice_str h2
 | box k =>
  have : k < b := of_decide_eq_true h1
  exact (nice_int (i := (k : Int)) (by rw [Int.natAbs_natCast]; omega)).mono (by decide) (by decide)
 | nxt k =>
  have : k < b := of_decide_eq_true h1
  exact (nice_int (i := (k : Int)) (by rw [Int.natAbs_natCast]; omega)).mono (by decide) (by decide)
theorem nice_sp {b : Nat} (hb : b <= 1000) {p : Sp} (h1 : inB b p = true) (h2 : okPt p = true) : Nice 42 1 p.d := by
 rw [Sp.eq]
 exact (Nices.cons (nice_w p) (Nices.cons (nice_a hb h1 h2) Nices.nil)).tup
theorem nice_few {x : Int} (h : 0 <= x /\ x < 3) : Nice 0 0 (.int x) := nice_int (by omega)
theorem nices_ints {B : Nat} : ∀ (l : List Int), (∀ x ∈ l, Nice 0 0 (.int x)) -> Nices (l.length) 0 (l.map PyData.int) := fun l h => by
 have := nices_all (B := 0) (D := 0) (l.map PyData.int) fun d hd => by obtain ⟨x, hx, rfl⟩ := List.mem_map.mp hd; exact h x hx
 rw [List.length_map] at this
 exact this.mono (by omega) (by omega)
theorem nice_ti {b : Nat} (hb : b <= 1000) {t : Ti} (h : TiN b t) : Nice 392 3 t.d := by
 have h1 := nices_all (B := 42) (D := 1) (t.sp.map Sp.d) fun d hd => by obtain ⟨p, hp, rfl⟩ := List.mem_map.mp hd; exact nice_sp hb (h.sp p hp) (h.pt p hp)
 rw [List.length_map] at h1
 have l9 := h.l9
 have few := h.few
 have h2 := (h1.mono (B' := 387) (by omega) (Nat.le_refl _)).tup
 have h3 := ((nices_ints (B := 0) t.told fun x hx => nice_few (h.ti x hx)).mono (B' := 3) (by omega) (Nat.le_refl _)).tup
 exact (Nices.cons h2 (Nices.cons (h3.mono (Nat.le_refl _) (by omega)) Nices.nil)).tup
theorem nices_ti {b : Nat} (hb : b <= 1000) {ts : List Ti} (h : ∀ t ∈ ts, TiN b t) (hn : ts.length <= 3) : Nice 1179 4 (.tuple (ts.map Ti.d)) := by
 have h1 := nices_all (B := 392) (D := 3) (ts.map Ti.d) fun d hd => by obtain ⟨p, hp, rfl⟩ := List.mem_map.mp hd; exact nice_ti hb (h p hp)
 rw [List.length_map] at h1
 exact (h1.mono (B' := 1179) (by omega) (Nat.le_refl _)).tup
theorem eqv_tnil (xs : List PyData) : PyData.eqv (.tuple xs) (.tuple []) = xs.isEmpty := by cases xs <;> rfl
theorem eqv_lnil (xs : List PyData) : PyData.eqv (.list xs) (.list []) = xs.isEmpty := by cases xs <;> rfl
def noB (h : Hd) (t : Int) (p : Sp) : Bool := !okB h t p
theorem noB_all (h : Hd) (t : Int) (sp : List Sp) : ((sp.filter (noB h t)).map Sp.a).isEmpty = sp.all (okB h t) := by
 induction sp with
 | nil => rfl
 | cons p r ih =>
  rw [List.all_cons]
  cases e : okB h t p with
  | true => rw [List.filter_cons_of_neg (by simp [noB, e]), Bool.true_and]; exact ih
  | false => rw [List.filter_cons_of_pos (by simp [noB, e])]; rfl
theorem cut1 {α : Type} (x : α) (l : List α) : cutL (x :: l) (some 1) none = l := by
 unfold cutL
 rw [show (1 : Int) = ((1 : Nat) : Int) from rfl, HT.sIx_nat, HT.sIx_none]
 simp
structure LdJ (h : Hd) (t : Ti) (ts : List Ti) (s : S) (r : List D) (ρ : En) (s' : S) : Prop where
 ex : ∃ (ls rs : List Int) (u : Option D) (g : S), t.told = ls ++ rs /\ r = rs.map (fun i => D.int i) /\
  ρ = [some (.tup ((t :: ts).map Ti.d)), some (.da (hdD h)), some (.ref s.length), u] /\
  s' = s ++ O.lst ((((ls.filter fun x => t.sp.all (okB h x)).flatMap fun x => (prod (ts.map (tf h))).map (x :: ·)).map wD).map D.da) :: g
noncomputable def ldB (F : FF) : FS := (fIfS (fTest (fOp gEq (fLc false [3, 1] 2 (fIt (fOp gIx (fOp gIx (fVar 0) (fC (.da (.int 0)))) (fC (.da (.int 0))))) (.t2 (.nm 0) (.nm 1)) (fAndT (fTest (fOp gEq (fVar 0) (fC (.da (.str "box"))))) (fTest (fOp gNe (fOp gIx (fVar 3) (fVar 1)) (fVar 2)))) (fVar 1)) (fLst false fNil))) (fDrop (fMt gExtend (fVar 2) (fCons (fLc false [3] 1 (fIt (fCall 2 F (fCons (fSl false (fVar 0) (fSome (fC (.da (.int 1)))) fNo) (fCons (fVar 1) fNil)))) (.nm 0) fYes (fOp (gAdd false) (fTup (fCons (fVar 1) fNil)) (fVar 0))) fNil))) fNext)
theorem lawdo_ok {h : Hd} (hh : h.length <= 1000) : ∀ (ts : List Ti) (n : Nat) (s : S), (∀ t ∈ ts, TiN h.length t) -> ts.length <= 3 -> ts.length < n -> (F_law_doings n [.tup (ts.map Ti.d), .da (hdD h)] s).W fun d s' => d = lsD (prod (ts.map (tf h))) /\ Ext s s'
 | [], n + 1, s, _, _, _ => by
  rw [e_law_doings]; unfold B_law_doings
  walk_at "go"
  rw [show gEq (.tup (([] : List Ti).map Ti.d)) (.tup []) s = .ok (.bl true) s from gEq_da rfl rfl]
  walk_at "go"
  exact ⟨rfl, Ext.refl _⟩
 | t :: ts, n + 1, s, hb, hn, hlt => by
  have ih := fun s' => lawdo_ok hh ts n s' (fun x hx => hb x (List.mem_cons_of_mem _ hx)) (by simp at hn; omega) (by simp at hlt; omega)
  have ht := hb t List.mem_cons_self
  rw [e_law_doings]; unfold B_law_doings
  walk_at "go"
  rw [gEq_da ((nices_ti hh hb hn).okD (by decide)) rfl, eqv_tnil]
  rw [show ((t :: ts).map Ti.d).isEmpty = false from rfl]
  walk_at "go"
  rw [show ∀ s2, gIx (.tup ((t :: ts).map Ti.d)) (.int 0) s2 = .ok (.da t.d) s2 from fun _ => it0]
  walk_at "go"
  rw [show ∀ s2, gIx (.da t.d) (.int 1) s2 = .ok (.tup (t.told.map PyData.int)) s2 from fun _ => it1]
  walk_at "go"
  show (loopF (.nm 3) (ldB (F_law_doings n)) _ _ _ _).W _
  refine loop_inv (LdJ h t ts s) ?_ ?_ _ _ _ ⟨[], t.told, none, [], rfl, by rw [List.map_map]; rfl, rfl, rfl⟩
  ·rintro d r ρ s' ⟨ls, rs, u, g, e1, e2, rfl, rfl⟩
   cases rs with
   | nil => cases e2
   | cons x rs =>
    rw [List.map_cons, List.cons.injEq] at e2
    obtain ⟨rfl, rfl⟩ := e2
    refine ⟨_, rfl, ?_⟩
    simp only [List.set_cons_succ, List.set_cons_zero]
    generalize hacc : (((ls.filter fun x => t.sp.all (okB h x)).flatMap fun x => (prod (ts.map (tf h))).map (x :: ·))) = acc
    have hls : ls.length <= 3 := by
     have := congrArg List.length e1
     have := ht.few
     simp at *
     omega
    have hpl : (prod (ts.map (tf h))).length <= 27 := by
     refine Nat.le_trans (prod_len fun c hc => ?_) ?_
     ·obtain ⟨y, hy, rfl⟩ := List.mem_map.mp hc
      exact tf_few (hb y (List.mem_cons_of_mem _ hy)).toTiOk
     ·rw [List.length_map]
      calc 3 ^ ts.length <= 3 ^ 3 := Nat.pow_le_pow_right (by decide) (by simp at hn; omega)
       _ = 27 := by decide
    have hal : acc.length <= 81 := by
     rw [← hacc]
     refine Nat.le_trans (flat_len (k := 27) _ fun y _ => by rw [List.length_map]; exact hpl) ?_
     have := List.length_filter_le (fun x => t.sp.all (okB h x)) ls
     omega
    unfold ldB
    walk_at "go"
    rw [show ∀ s2, gIx (.tup ((t :: ts).map Ti.d)) (.int 0) s2 = .ok (.da t.d) s2 from fun _ => it0]
    walk_at "go"
    rw [show ∀ s2, gIx (.da t.d) (.int 0) s2 = .ok (.tup (t.sp.map Sp.d)) s2 from fun _ => it0]
    walk_at "go"
    have l9 := ht.l9
    rw [e_lc1 (ρ0 := [none, none, some (.int x), some (.da (hdD h))]) (by simp; omega) rfl]
    rw [show (t.sp.map Sp.d).map D.da = t.sp.map (fun p => D.da p.d) by rw [List.map_map]; rfl]
    rw [comp_da (fun p : Sp => D.da p.d) (noB h x) Sp.a t.sp fun p hp => ⟨[some (.str p.w), some (.da p.a), some (.int x), some (.da (hdD h))], by rw [Sp.eq]; rfl, by
     walk_at "ev"
     cases p with
     | port y =>
      rw [show ∀ s2, gEq (.str (Sp.port y).w) (.str "box") s2 = .ok (.bl false) s2 from fun _ => rfl]
      walk_at "ev"
      rfl
     | nxt k =>
      rw [show ∀ s2, gEq (.str (Sp.nxt k).w) (.str "box") s2 = .ok (.bl false) s2 from fun _ => rfl]
      walk_at "ev"
      rfl
     | box k =>
      rw [show ∀ s2, gEq (.str (Sp.box k).w) (.str "box") s2 = .ok (.bl true) s2 from fun _ => rfl]
      walk_at "ev"
      have hk : k < h.length := of_decide_eq_true (ht.sp _ hp)
      rw [show D.da (Sp.box k).a = .int (k : Int) from rfl, ix_hd hk]
      walk_at "ev"
      rw [gNe_da (okD_h _) rfl, eqv_h]
      walk_at "ev"
      rfl, fun _ => rfl⟩]
    walk_at "go"
    rw [gEq_da (Nice.okD (B := 21 * t.sp.length) (D := 1) ?_ (by decide)) rfl, eqv_lnil, noB_all]
    ·cases hc : t.sp.all (okB h x) with
     | false =>
      walk_at "go"
      refine ⟨ls ++ [x], rs, _, g, by rw [e1]; simp, rfl, rfl, ?_⟩
      rw [List.filter_append, ← hacc]
      simp [hc]
     | true =>
      walk_at "go"
      rw [e_mt1 get_app]
      walk_at "go"
      rw [show cutL ((t :: ts).map Ti.d) (some 1) none = ts.map Ti.d from cut1 _ _]
      refine R.W_mono (ih _) ?_
      rintro _ s2 ⟨rfl, x2⟩
      obtain ⟨g2, rfl⟩ := x2.ex
      rw [List.append_assoc, List.cons_append]
      walk_at "go"
      rw [show ∀ W s2, gIter (lsD W) s2 = .ok ((W.map wD).map D.da, none) s2 from fun _ _ => rfl]
      walk_at "go"
      rw [e_lc1 (ρ0 := [none, some (.int x)]) (by simp; omega) rfl]
      rw [show ∀ W : List (List Int), (W.map wD).map D.da = W.map (fun w => D.da (wD w)) from fun W => by rw [List.map_map]; rfl]
      rw [comp_da (fun w : List Int => D.da (wD w)) (fun _ => true) (fun w => wD (x :: w)) (prod (ts.map (tf h))) fun w hw => ⟨[some (.da (wD w)), some (.int x)], rfl, rfl, fun _ => by
       walk_at "ev"
       show gAdd false (.tup [.int x]) (.tup (w.map PyData.int)) _ = _
       have := prod_each w hw
       rw [List.length_map] at this
       rw [gAdd_tup (by simp at hn ⊢; omega)]
       rfl⟩]
      rw [show (prod (ts.map (tf h))).filter (fun _ => true) = prod (ts.map (tf h)) by simp]
      walk_at "go"
      rw [extend_lst get_app (by simp; omega)]
      walk_at "go"
      refine ⟨ls ++ [x], rs, _, g ++ g2, by rw [e1]; simp, rfl, rfl, ?_⟩
      rw [set_app, List.filter_append, ← hacc]
      simp [hc]
    ·have := nices_all (B := 20) (D := 0) ((t.sp.filter (noB h x)).map Sp.a) fun d hd => by
      obtain ⟨p, hp, rfl⟩ := List.mem_map.mp hd
      have hp := (List.mem_filter.mp hp).1
      exact nice_a hh (ht.sp p hp) (ht.pt p hp)
     refine (this.mono (B' := 21 * t.sp.length) ?_ (Nat.le_refl _)).lst
     rw [List.length_map]
     have := List.length_filter_le (noB h x) t.sp
     omega
  ·rintro ρ s' ⟨ls, rs, u, g, e1, e2, rfl, rfl⟩
   cases rs with
   | cons x rs => cases e2
   | nil =>
    rw [List.append_nil] at e1
    subst e1
    walk_at "go"
    rw [frz_ref get_app (pures_da _)]
    walk_at "go"
    exact ⟨rfl, by rw [set_app]; exact Ext.add _ _⟩
end Ln
namespace Ln
open PySem L2 PF
def isPort : Sp -> Bool
 | .port _ => true
 | _ => false
def isBox (j : Nat) : Sp -> Bool
 | .box k => decide (k = j)
 | _ => false
def fl (ts : List Ti) (w : List Int) : List (Sp × Int) := (ts.zip w).flatMap fun q => q.1.sp.map fun p => (p, q.2)
def spots (ts : List Ti) : List Sp := ts.flatMap Ti.sp
def prs (F : List (Sp × Int)) : List PyData := (F.filter fun q => isPort q.1).map fun q => .tuple [q.1.a, .int q.2]
def gone1 (B : Hd) (p : Sp) : Hd := match p with
 | .box k => B.set k none
 | _ => B
def lay1 (B : Hd) (q : Sp × Int) : Hd := match q.1 with
 | .nxt k => B.set k (some q.2)
 | _ => B
def sb (ts : List Ti) (w : List Int) (h : Hd) : Hd := (fl ts w).foldl lay1 ((spots ts).foldl gone1 h)
theorem gone1_len (B : Hd) (p : Sp) : (gone1 B p).length = B.length := by cases p <;> simp [gone1]
theorem lay1_len (B : Hd) (q : Sp × Int) : (lay1 B q).length = B.length := by obtain ⟨p, x⟩ := q; cases p <;> simp [lay1]
theorem gone_len : ∀ (l : List Sp) (B : Hd), (l.foldl gone1 B).length = B.length
 | [], B => rfl
 | p :: r, B => by rw [List.foldl_cons, gone_len r, gone1_len]
theorem lay_len : ∀ (l : List (Sp × Int)) (B : Hd), (l.foldl lay1 B).length = B.length
 | [], B => rfl
 | p :: r, B => by rw [List.foldl_cons, lay_len r, lay1_len]
theorem sb_len {ts : List Ti} {w : List Int} {h : Hd} : (sb ts w h).length = h.length := by unfold sb; rw [lay_len, gone_len]
theorem prs_app (F G : List (Sp × Int)) : prs (F ++ G) = prs F ++ prs G := by unfold prs; simp
theorem prs_one (sp : List Sp) (x : Int) : prs (sp.map fun p => (p, x)) = (sp.filter isPort).map fun p => .tuple [p.a, .int x] := by
 unfold prs
 (rw [List.filter_map, List.map_map]; rfl)
theorem fl_len {ts : List Ti} {w : List Int} (h9 : ∀ t ∈ ts, t.sp.length <= 9) (hn : ts.length <= 3) : (fl ts w).length <= 27 := by
 refine Nat.le_trans (flat_len (k := 9) _ fun q hq => ?_) ?_
 ·rw [List.length_map]; exact h9 _ (List.of_mem_zip hq).1
 ·rw [List.length_zip]; omega
theorem prs_len (F : List (Sp × Int)) : (prs F).length <= F.length := by unfold prs; rw [List.length_map]; exact List.length_filter_le _ _
theorem prs_mem {F : List (Sp × Int)} {d : PyData} (h : d ∈ prs F) : ∃ y x, (Sp.port y, x) ∈ F /\ d = .tuple [.str y, .int x] := by
 unfold prs at h
 obtain ⟨⟨p, x⟩, hq, rfl⟩ := List.mem_map.mp h
 obtain ⟨hq, hp⟩ := List.mem_filter.mp hq
 cases p with
 | port y => exact ⟨y, x, hq, rfl⟩
 | box k => cases hp
 | nxt k => cases hp
theorem lt_pairs (a b : Str) (i j : Int) : (ltP (.tuple [.str a, .int i]) (.tuple [.str b, .int j])).isSome = true := by
 simp only [ltP, ltPs]
 repeat (first | rfl | split)
theorem cmpb_pairs {F : List (Sp × Int)} : cmpb (prs F) = true := by
 refine List.all_eq_true.mpr fun d hd => ?_
 obtain ⟨y, x, _, rfl⟩ := prs_mem hd
 rw [Bool.and_eq_true]
 refine ⟨rfl, List.all_eq_true.mpr fun e he => ?_⟩
 obtain ⟨y', x', _, rfl⟩ := prs_mem he
 exact lt_pairs _ _ _ _
def FlOk (b : Nat) (F : List (Sp × Int)) : Prop := ∀ q ∈ F, inB b q.1 = true /\ okPt q.1 = true /\ 0 <= q.2 /\ q.2 < 3
theorem nice_prs {b : Nat} {F : List (Sp × Int)} (h : FlOk b F) {d : PyData} (hd : d ∈ prs F) : Nice 22 1 d := by
 obtain ⟨y, x, hq, rfl⟩ := prs_mem hd
 obtain ⟨_, h2, h3, h4⟩ := h _ hq
 exact (Nices.cons (nice_str h2) (Nices.cons ((nice_few ⟨h3, h4⟩).mono (Nat.le_refl _) (Nat.le_refl _)) Nices.nil)).tup.mono (by decide) (by decide)
theorem prs_okD {b : Nat} {F : List (Sp × Int)} (h : FlOk b F) : (prs F).all okD = true := List.all_eq_true.mpr fun d hd => (nice_prs h hd).okD (by decide)
noncomputable def moB : FS := (fDrop (fMt gExtend (fVar 2) (fCons (fLc false [5] 2 (fIt (fVar 3)) (.t2 (.nm 0) (.nm 1)) (fTest (fOp gEq (fVar 0) (fC (.da (.str "port"))))) (fTup (fCons (fVar 1) (fCons (fVar 2) fNil)))) fNil)))
structure MoJ (st : Stp) (w : List Int) (s : S) (r : List D) (ρ : En) (s' : S) : Prop where
 ex : ∃ (qs rs : List (Ti × Int)) (u v x : Option D), st.ts.zip w = qs ++ rs /\ r = rs.map (fun q => D.tup [q.1.d, .int q.2]) /\
  ρ = [some (.da st.d), some (.da (wD w)), some (.ref s.length), u, v, x] /\ s' = s ++ [.lst ((prs (qs.flatMap fun q => q.1.sp.map fun p => (p, q.2))).map D.da)]
theorem zip_ds (ts : List Ti) (w : List Int) : ((ts.map Ti.d).zip (w.map PyData.int)).map (fun p => D.tup [p.1, p.2]) = (ts.zip w).map fun q => D.tup [q.1.d, .int q.2] := by
 rw [List.zip_map, List.map_map]; rfl
theorem moment_ok {b : Nat} {s : S} {st : Stp} {w : List Int} (h9 : ∀ t ∈ st.ts, t.sp.length <= 9) (hn : st.ts.length <= 3) (hf : FlOk b (fl st.ts w)) :
  (Fmoment_of [.da st.d, .da (wD w)] s).W fun d s' => d = .tup (srtD (prs (fl st.ts w))) /\ Ext s s' := by
 rw [emoment_of]; unfold Bmoment_of
 walk_at "go"
 rw [show ∀ s2, gIx (.da st.d) (.int 2) s2 = .ok (.tup (st.ts.map Ti.d)) s2 from fun _ => it2]
 walk_at "go"
 rw [show ∀ s2, gZipB [.tup (st.ts.map Ti.d), .da (wD w)] s2 = .ok ((st.ts.zip w).map (fun q => D.tup [q.1.d, .int q.2]), none) s2 from fun s2 => by
  rw [← zip_ds]; exact zipB_tt]
 walk_at "go"
 show (loopF (.t2 (.t2 (.nm 3) (.nm 4)) (.nm 5)) moB _ _ _ _).W _
 have hfl := fl_len (w := w) h9 hn
 refine loop_inv (MoJ st w s) ?_ ?_ _ _ _ ⟨[], st.ts.zip w, none, none, none, rfl, rfl, rfl, rfl⟩
 ·rintro d r ρ s' ⟨qs, rs, u, v, x, e1, e2, rfl, rfl⟩
  cases rs with
  | nil => cases e2
  | cons q rs =>
   obtain ⟨t, y⟩ := q
   rw [List.map_cons, List.cons.injEq] at e2
   obtain ⟨rfl, rfl⟩ := e2
   refine ⟨[some (.da st.d), some (.da (wD w)), some (.ref s.length), some (.tup (t.sp.map Sp.d)), some (.tup (t.told.map PyData.int)), some (.int y)], rfl, ?_⟩
   have ht : t ∈ st.ts := (List.of_mem_zip (show (t, y) ∈ st.ts.zip w by rw [e1]; simp)).1
   have l9 := h9 t ht
   unfold moB
   walk_at "go"
   rw [e_mt1 get_app]
   walk_at "go"
   rw [e_lc1 (ρ0 := [none, none, some (.int y)]) (by simp; omega) rfl]
   rw [show (t.sp.map Sp.d).map D.da = t.sp.map (fun p => D.da p.d) by rw [List.map_map]; rfl]
   rw [comp_da (fun p : Sp => D.da p.d) isPort (fun p => .tuple [p.a, .int y]) t.sp fun p hp => ⟨[some (.str p.w), some (.da p.a), some (.int y)], by rw [Sp.eq]; rfl, by
    walk_at "ev"
    cases p with
    | port z => rw [show ∀ s2, gEq (.str (Sp.port z).w) (.str "port") s2 = .ok (.bl true) s2 from fun _ => rfl]; rfl
    | box z => rw [show ∀ s2, gEq (.str (Sp.box z).w) (.str "port") s2 = .ok (.bl false) s2 from fun _ => rfl]; rfl
    | nxt z => rw [show ∀ s2, gEq (.str (Sp.nxt z).w) (.str "port") s2 = .ok (.bl false) s2 from fun _ => rfl]; rfl, fun _ => rfl⟩]
   walk_at "go"
   have hl1 : (prs (qs.flatMap fun q => q.1.sp.map fun p => (p, q.2))).length <= 27 := by
    refine Nat.le_trans (prs_len _) (Nat.le_trans ?_ hfl)
    unfold fl
    rw [e1, List.flatMap_append, List.length_append]; omega
   have hl2 := List.length_filter_le isPort t.sp
   rw [extend_lst get_app (by simp; omega)]
   walk_at "go"
   refine ⟨qs ++ [(t, y)], rs, _, _, _, by rw [e1]; simp, rfl, rfl, ?_⟩
   rw [set_app, List.flatMap_append, prs_app]
   simp [prs_one]
 ·rintro ρ s' ⟨qs, rs, u, v, x, e1, e2, rfl, rfl⟩
  cases rs with
  | cons q rs => cases e2
  | nil =>
   rw [List.append_nil] at e1
   subst e1
   walk_at "go"
   rw [show ((st.ts.zip w).flatMap fun q => q.1.sp.map fun p => (p, q.2)) = fl st.ts w from rfl]
   rw [sorted_ref get_app (Nat.lt_of_le_of_lt (prs_len _) (Nat.lt_of_le_of_lt hfl (by decide))) cmpb_pairs (prs_okD (b := b) hf)]
   walk_at "go"
   exact ⟨trivial, Ext.add _ _⟩
def bhD (B : Hd) : O := .lst (B.map fun o => D.da (hD o))
theorem bh_set {B : Hd} {k : Nat} {o : Option Int} : (B.map fun o => D.da (hD o)).set k (D.da (hD o)) = (B.set k o).map fun o => D.da (hD o) := by rw [List.map_set]
noncomputable def goB : FS := (fIfS (fTest (fOp gEq (fVar 6) (fC (.da (.str "box"))))) (fSetIt (fC (.da (.none))) (fVar 3) (fVar 7)) fNext)
noncomputable def laB : FS := (fIfS (fTest (fOp gEq (fVar 6) (fC (.da (.str "next"))))) (fSetIt (fVar 8) (fVar 3) (fVar 7)) fNext)
theorem go_loop {s g : S} {a b c d e x : Option D} {all : List D} : ∀ (sp : List Sp) (B : Hd) (u v : Option D), (∀ p ∈ sp, inB B.length p = true) ->
  ∃ u' v', loopF (.t2 (.nm 6) (.nm 7)) goB (all, none) ((sp.map Sp.d).map D.da) [a, b, c, some (.ref s.length), d, e, u, v, x] (s ++ [bhD B]) = .ok (.nx [a, b, c, some (.ref s.length), d, e, u', v', x]) (s ++ [bhD (sp.foldl gone1 B)])
 | [], B, u, v, _ => ⟨u, v, rfl⟩
 | p :: r, B, u, v, hb => by
  obtain ⟨u2, v2, e2⟩ := go_loop (s := s) (g := g) (a := a) (b := b) (c := c) (d := d) (e := e) (x := x) (all := all) r (gone1 B p) (some (.str p.w)) (some (.da p.a)) (fun q hq => by rw [gone1_len]; exact hb q (List.mem_cons_of_mem _ hq))
  refine ⟨u2, v2, ?_⟩
  rw [List.map_cons, List.map_cons, loop_cons (ρ1 := [a, b, c, some (.ref s.length), d, e, some (.str p.w), some (.da p.a), x]) (by rw [Sp.eq]; rfl)]
  have e1 : goB [a, b, c, some (.ref s.length), d, e, some (.str p.w), some (.da p.a), x] (s ++ [bhD B]) = .ok (.nx [a, b, c, some (.ref s.length), d, e, some (.str p.w), some (.da p.a), x]) (s ++ [bhD (gone1 B p)]) := by
   unfold goB
   walk_at "ev"
   cases p with
   | port y =>
    rw [show ∀ s2, gEq (.str (Sp.port y).w) (.str "box") s2 = .ok (.bl false) s2 from fun _ => rfl]
    walk_at "ev"
    rfl
   | nxt k =>
    rw [show ∀ s2, gEq (.str (Sp.nxt k).w) (.str "box") s2 = .ok (.bl false) s2 from fun _ => rfl]
    walk_at "ev"
    rfl
   | box k =>
    have hk : k < B.length := of_decide_eq_true (hb (.box k) List.mem_cons_self)
    rw [show ∀ s2, gEq (.str (Sp.box k).w) (.str "box") s2 = .ok (.bl true) s2 from fun _ => rfl]
    walk_at "ev"
    rw [show D.da (Sp.box k).a = .int (k : Int) from rfl, gSet_ref (get_app (o := bhD B)) (by rw [List.length_map]; exact hk), set_app]
    walk_at "ev"
    show R.ok _ (s ++ [O.lst ((B.map fun o => D.da (hD o)).set k (D.da (hD none)))]) = _
    rw [bh_set]; rfl
  rw [e1, R.bind_ok, loop_nx, e2]; rfl
theorem la_loop {s g : S} {a b c d e : Option D} {x : Int} {all : List D} : ∀ (sp : List Sp) (B : Hd) (u v : Option D), (∀ p ∈ sp, inB B.length p = true) ->
  ∃ u' v', loopF (.t2 (.nm 6) (.nm 7)) laB (all, none) ((sp.map Sp.d).map D.da) [a, b, c, some (.ref s.length), d, e, u, v, some (.int x)] (s ++ [bhD B]) = .ok (.nx [a, b, c, some (.ref s.length), d, e, u', v', some (.int x)]) (s ++ [bhD ((sp.map fun p => (p, x)).foldl lay1 B)])
 | [], B, u, v, _ => ⟨u, v, rfl⟩
 | p :: r, B, u, v, hb => by
  obtain ⟨u2, v2, e2⟩ := la_loop (s := s) (g := g) (a := a) (b := b) (c := c) (d := d) (e := e) (x := x) (all := all) r (lay1 B (p, x)) (some (.str p.w)) (some (.da p.a)) (fun q hq => by rw [lay1_len]; exact hb q (List.mem_cons_of_mem _ hq))
  refine ⟨u2, v2, ?_⟩
  rw [List.map_cons, List.map_cons, loop_cons (ρ1 := [a, b, c, some (.ref s.length), d, e, some (.str p.w), some (.da p.a), some (.int x)]) (by rw [Sp.eq]; rfl)]
  have e1 : laB [a, b, c, some (.ref s.length), d, e, some (.str p.w), some (.da p.a), some (.int x)] (s ++ [bhD B]) = .ok (.nx [a, b, c, some (.ref s.length), d, e, some (.str p.w), some (.da p.a), some (.int x)]) (s ++ [bhD (lay1 B (p, x))]) := by
   unfold laB
   walk_at "ev"
   cases p with
   | port y =>
    rw [show ∀ s2, gEq (.str (Sp.port y).w) (.str "next") s2 = .ok (.bl false) s2 from fun _ => rfl]
    walk_at "ev"
    rfl
   | box k =>
    rw [show ∀ s2, gEq (.str (Sp.box k).w) (.str "next") s2 = .ok (.bl false) s2 from fun _ => rfl]
    walk_at "ev"
    rfl
   | nxt k =>
    have hk : k < B.length := of_decide_eq_true (hb (.nxt k) List.mem_cons_self)
    rw [show ∀ s2, gEq (.str (Sp.nxt k).w) (.str "next") s2 = .ok (.bl true) s2 from fun _ => rfl]
    walk_at "ev"
    rw [show D.da (Sp.nxt k).a = .int (k : Int) from rfl, gSet_ref (get_app (o := bhD B)) (by rw [List.length_map]; exact hk), set_app]
    walk_at "ev"
    show R.ok _ (s ++ [O.lst ((B.map fun o => D.da (hD o)).set k (D.da (hD (some x))))]) = _
    rw [bh_set]; rfl
  rw [e1, R.bind_ok, loop_nx, e2]; rfl
structure GoJ (st : Stp) (h : Hd) (w : List Int) (s : S) (r : List D) (ρ : En) (s' : S) : Prop where
 ex : ∃ (ts rs : List Ti) (u1 u2 u3 u4 : Option D), st.ts = ts ++ rs /\ r = (rs.map Ti.d).map D.da /\
  ρ = [some (.da st.d), some (.da (hdD h)), some (.da (wD w)), some (.ref s.length), u1, u2, u3, u4, none] /\ s' = s ++ [bhD ((spots ts).foldl gone1 h)]
structure LaJ (st : Stp) (h : Hd) (w : List Int) (s : S) (r : List D) (ρ : En) (s' : S) : Prop where
 ex : ∃ (qs rs : List (Ti × Int)) (u1 u2 u3 u4 u5 : Option D), st.ts.zip w = qs ++ rs /\ r = rs.map (fun q => D.tup [q.1.d, .int q.2]) /\
  ρ = [some (.da st.d), some (.da (hdD h)), some (.da (wD w)), some (.ref s.length), u1, u2, u3, u4, u5] /\ s' = s ++ [bhD ((qs.flatMap fun q => q.1.sp.map fun p => (p, q.2)).foldl lay1 ((spots st.ts).foldl gone1 h))]
theorem stand_ok {s : S} {st : Stp} {h : Hd} {w : List Int} (hb : ∀ t ∈ st.ts, ∀ p ∈ t.sp, inB h.length p = true) :
  (Fstand_by [.da st.d, .da (hdD h), .da (wD w)] s).W fun d s' => d = .tup [.int st.b, hdD (sb st.ts w h)] /\ Ext s s' := by
 rw [estand_by]; unfold Bstand_by
 walk_at "go"
 rw [show gList true [.da (hdD h)] s = .ok (.ref s.length) (s ++ [bhD h]) from by
  show gList true [.tup (h.map hD)] s = _
  rw [list_tupN, List.map_map]; rfl]
 walk_at "go"
 rw [show ∀ s2, gIx (.da st.d) (.int 2) s2 = .ok (.tup (st.ts.map Ti.d)) s2 from fun _ => it2]
 walk_at "go"
 show (loopF (.t2 (.nm 4) (.nm 5)) (fFor (fIt (fVar 4)) (.t2 (.nm 6) (.nm 7)) goB) _ _ _ _).W _
 refine loop_inv (GoJ st h w s) ?_ ?_ _ _ _ ⟨[], st.ts, none, none, none, none, rfl, rfl, rfl, rfl⟩
 ·rintro d r ρ s' ⟨ts, rs, u1, u2, u3, u4, e1, e2, rfl, rfl⟩
  cases rs with
  | nil => cases e2
  | cons t rs =>
   rw [List.map_cons, List.map_cons, List.cons.injEq] at e2
   obtain ⟨rfl, rfl⟩ := e2
   refine ⟨[some (.da st.d), some (.da (hdD h)), some (.da (wD w)), some (.ref s.length), some (.tup (t.sp.map Sp.d)), some (.tup (t.told.map PyData.int)), u3, u4, none], rfl, ?_⟩
   walk_at "go"
   obtain ⟨u', v', e⟩ := go_loop (s := s) (g := []) (a := some (.da st.d)) (b := some (.da (hdD h))) (c := some (.da (wD w))) (d := some (.tup (t.sp.map Sp.d))) (e := some (.tup (t.told.map PyData.int))) (x := none) (all := (t.sp.map Sp.d).map D.da) t.sp ((spots ts).foldl gone1 h) u3 u4 (fun p hp => by rw [gone_len]; exact hb t (by rw [e1]; simp) p hp)
   rw [e]
   exact ⟨ts ++ [t], rs, _, _, _, _, by rw [e1]; simp, rfl, rfl, by unfold spots; rw [List.flatMap_append, List.foldl_append]; simp⟩
 ·rintro ρ s' ⟨ts, rs, u1, u2, u3, u4, e1, e2, rfl, rfl⟩
  cases rs with
  | cons q rs => cases e2
  | nil =>
   rw [List.append_nil] at e1
   subst e1
   walk_at "go"
   rw [show ∀ s2, gIx (.da st.d) (.int 2) s2 = .ok (.tup (st.ts.map Ti.d)) s2 from fun _ => it2]
   walk_at "go"
   rw [show ∀ s2, gZipB [.tup (st.ts.map Ti.d), .da (wD w)] s2 = .ok ((st.ts.zip w).map (fun q => D.tup [q.1.d, .int q.2]), none) s2 from fun s2 => by
    rw [← zip_ds]; exact zipB_tt]
   walk_at "go"
   show (loopF (.t2 (.t2 (.nm 4) (.nm 5)) (.nm 8)) (fFor (fIt (fVar 4)) (.t2 (.nm 6) (.nm 7)) laB) _ _ _ _).W _
   refine loop_inv (LaJ st h w s) ?_ ?_ _ _ _ ⟨[], st.ts.zip w, u1, u2, u3, u4, none, rfl, rfl, rfl, rfl⟩
   ·rintro d r ρ s' ⟨qs, rs, u1, u2, u3, u4, u5, e1, e2, rfl, rfl⟩
    cases rs with
    | nil => cases e2
    | cons q rs =>
     obtain ⟨t, y⟩ := q
     rw [List.map_cons, List.cons.injEq] at e2
     obtain ⟨rfl, rfl⟩ := e2
     refine ⟨[some (.da st.d), some (.da (hdD h)), some (.da (wD w)), some (.ref s.length), some (.tup (t.sp.map Sp.d)), some (.tup (t.told.map PyData.int)), u3, u4, some (.int y)], rfl, ?_⟩
     have ht : t ∈ st.ts := (List.of_mem_zip (show (t, y) ∈ st.ts.zip w by rw [e1]; simp)).1
     walk_at "go"
     obtain ⟨u', v', e⟩ := la_loop (s := s) (g := []) (a := some (.da st.d)) (b := some (.da (hdD h))) (c := some (.da (wD w))) (d := some (.tup (t.sp.map Sp.d))) (e := some (.tup (t.told.map PyData.int))) (x := y) (all := (t.sp.map Sp.d).map D.da) t.sp ((qs.flatMap fun q => q.1.sp.map fun p => (p, q.2)).foldl lay1 ((spots st.ts).foldl gone1 h)) u3 u4 (fun p hp => by rw [lay_len, gone_len]; exact hb t ht p hp)
     rw [e]
     exact ⟨qs ++ [(t, y)], rs, _, _, _, _, _, by rw [e1]; simp, rfl, rfl, by rw [List.flatMap_append, List.foldl_append]; simp⟩
   ·rintro ρ s' ⟨qs, rs, u1, u2, u3, u4, u5, e1, e2, rfl, rfl⟩
    cases rs with
    | cons q rs => cases e2
    | nil =>
     rw [List.append_nil] at e1
     subst e1
     walk_at "go"
     rw [show ∀ s2, gIx (.da st.d) (.int 3) s2 = .ok (.int st.b) s2 from fun _ => it3]
     walk_at "go"
     rw [show ((st.ts.zip w).flatMap fun q => q.1.sp.map fun p => (p, q.2)) = fl st.ts w from rfl]
     rw [tuple_ref (xs := (sb st.ts w h).map hD) (by rw [get_app]; unfold bhD sb; rw [List.map_map]; rfl)]
     walk_at "go"
     exact ⟨rfl, Ext.add _ _⟩
end Ln
namespace Ln
open PySem L2 PF
abbrev KV := List (PyData × D)
def nx1 (j : Nat) (o : Option Int) (q : Sp × Int) : Option Int := match q.1 with
 | .nxt k => if k = j then some q.2 else o
 | _ => o
def val (o b : Option Int) : Option Int := match o with
 | some x => some x
 | none => b
theorem lay_at {j : Nat} {b : Option Int} : ∀ (F : List (Sp × Int)) (B : Hd) (o : Option Int), B[j]? = some (val o b) -> (F.foldl lay1 B)[j]? = some (val (F.foldl (nx1 j) o) b)
 | [], B, o, h => h
 | (p, x) :: r, B, o, h => by
  (rw [List.foldl_cons, List.foldl_cons])
  refine lay_at r _ _ ?_
  cases p with
  | port y => exact h
  | box k => exact h
  | nxt k =>
   show (B.set k (some x))[j]? = some (val (if k = j then some x else o) b)
   by_cases e : k = j
   ·subst e
    rw [if_pos rfl, List.getElem?_set_self (List.getElem?_eq_some_iff.mp h).1]; rfl
   ·rw [if_neg e, List.getElem?_set_ne e]; exact h
theorem gone_at {j : Nat} {b : Option Int} : ∀ (F : List Sp) (B : Hd) (c : Bool), B[j]? = some (if c = true then none else b) -> (F.foldl gone1 B)[j]? = some (if (c || F.any (isBox j)) = true then none else b)
 | [], B, c, h => by simpa using h
 | p :: r, B, c, h => by
  rw [List.foldl_cons, List.any_cons, ← Bool.or_assoc]
  refine gone_at r _ _ ?_
  cases p with
  | port y => simpa [isBox, gone1] using h
  | nxt k => simpa [isBox, gone1] using h
  | box k =>
   show (B.set k none)[j]? = _
   by_cases e : k = j
   ·subst e
    rw [List.getElem?_set_self (List.getElem?_eq_some_iff.mp h).1]
    simp [isBox]
   ·rw [List.getElem?_set_ne e]
    simpa [isBox, e] using h
def bhv (ts : List Ti) (w : List Int) (h : Hd) (j : Nat) : Option Int := val ((fl ts w).foldl (nx1 j) none) (if (spots ts).any (isBox j) = true then none else h.getD j none)
theorem sb_at {ts : List Ti} {w : List Int} {h : Hd} {j : Nat} (hj : j < h.length) : (sb ts w h)[j]? = some (bhv ts w h j) := by
 unfold sb bhv
 refine lay_at _ _ none ?_
 have := gone_at (j := j) (b := h.getD j none) (spots ts) h false (by
  rw [if_neg Bool.false_ne_true, List.getD_eq_getElem?_getD, List.getElem?_eq_getElem hj]; rfl)
 rw [this, Bool.false_or]; rfl
theorem sb_map {ts : List Ti} {w : List Int} {h : Hd} : sb ts w h = (List.range h.length).map (bhv ts w h) := by
 apply List.ext_getElem?
 intro j
 by_cases hj : j < h.length
 ·rw [sb_at hj, List.getElem?_map, List.getElem?_range hj]; rfl
 ·rw [List.getElem?_eq_none (by rw [sb_len]; omega), List.getElem?_eq_none (by simp; omega)]
structure Mst where
 M : List PyData
 G : KV
 L : KV
noncomputable def dn1 (S : Mst) (q : Sp × Int) : Mst := match q.1 with
 | .port y => ⟨S.M ++ [.tuple [.str y, .int q.2]], S.G, S.L⟩
 | .nxt k => ⟨S.M, S.G, dPut S.L (.int k) (.int q.2)⟩
 | .box k => ⟨S.M, dPut S.G (.int k) (.bl true), S.L⟩
def kInt (kvs : KV) : Prop := (kvs.all fun e => isK e.1) = true
theorem kInt_put {kvs : KV} {k : Nat} {v : D} (h : kInt kvs) : kInt (dPut kvs (.int k) v) := by
 unfold kInt at h ⊢
 have e : ∀ l : KV, (l.all fun e => isK e.1) = (l.map (·.1)).all isK := fun l => by rw [List.all_map]; rfl
 rw [e] at h ⊢
 rw [put_keys]
 unfold addK
 split
 ·exact h
 ·rw [List.all_append, h]; rfl
theorem kSame_i {kvs : KV} {k : Nat} (h : kInt kvs) : kSame kvs (.int k) = true := by
 unfold kSame
 rw [show isK (.int (k : Int)) = true from rfl, h]; rfl
structure MOk (F : List (Sp × Int)) (S : Mst) : Prop where
 m : S.M = prs F
 kg : kInt S.G
 kl : kInt S.L
 g : ∀ j : Nat, (dGet S.G (.int j)).isSome = F.any fun q => isBox j q.1
 l : ∀ j : Nat, dGet S.L (.int j) = (F.foldl (nx1 j) none).map fun x => D.int x
 lg : S.G.length <= F.length
 ll : S.L.length <= F.length
theorem put_len {kvs : KV} {k : PyData} {v : D} : (dPut kvs k v).length <= kvs.length + 1 := by
 unfold dPut
 split
 ·rw [List.length_map]; omega
 ·simp
theorem MOk.nil : MOk [] ⟨[], [], []⟩ := ⟨rfl, rfl, rfl, fun _ => rfl, fun _ => rfl, Nat.le_refl _, Nat.le_refl _⟩
theorem MOk.step {F : List (Sp × Int)} {S : Mst} (h : MOk F S) (q : Sp × Int) : MOk (F ++ [q]) (dn1 S q) := by
 obtain ⟨p, x⟩ := q
 have nat_inj : ∀ {k j : Nat}, PyData.int (k : Int) = .int (j : Int) -> k = j := fun {k j} e => by
  injection e with e; exact Int.ofNat.inj e
 cases p with
 | port y =>
  refine ⟨?_, h.kg, h.kl, fun j => ?_, fun j => ?_, ?_, ?_⟩
  ·show S.M ++ [_] = _
   rw [prs_app, h.m]; rfl
  ·rw [List.any_append, ← h.g j]; simp [isBox, dn1]
  ·rw [List.foldl_append]; exact h.l j
  ·rw [List.length_append]; exact Nat.le_succ_of_le h.lg
  ·rw [List.length_append]; exact Nat.le_succ_of_le h.ll
 | nxt k =>
  refine ⟨?_, h.kg, kInt_put h.kl, fun j => ?_, fun j => ?_, ?_, ?_⟩
  ·show S.M = _
   rw [prs_app, h.m]; simp [prs, isPort]
  ·rw [List.any_append, ← h.g j]; simp [isBox, dn1]
  ·show dGet (dPut S.L (.int k) (.int x)) (.int j) = _
   rw [get_put, List.foldl_append, h.l j]
   show _ = (if k = j then some x else F.foldl (nx1 j) none).map fun x => D.int x
   by_cases e : k = j
   ·rw [if_pos e, if_pos (by rw [e])]; rfl
   ·rw [if_neg e, if_neg (fun z => e (nat_inj z))]
  ·rw [List.length_append]; exact Nat.le_succ_of_le h.lg
  ·rw [List.length_append]; exact Nat.le_trans put_len (Nat.succ_le_succ h.ll)
 | box k =>
  refine ⟨?_, kInt_put h.kg, h.kl, fun j => ?_, fun j => ?_, ?_, ?_⟩
  ·show S.M = _
   rw [prs_app, h.m]; simp [prs, isPort]
  ·show (dGet (dPut S.G (.int k) (.bl true)) (.int j)).isSome = _
   rw [get_put, List.any_append, ← h.g j]
   by_cases e : k = j
   ·rw [if_pos (by rw [e])]; simp [isBox, e]
   ·rw [if_neg (fun z => e (nat_inj z))]; simp [isBox, e]
  ·rw [List.foldl_append]; exact h.l j
  ·rw [List.length_append]; exact Nat.le_trans put_len (Nat.succ_le_succ h.lg)
  ·rw [List.length_append]; exact Nat.le_succ_of_le h.ll
theorem MOk.fold {S : Mst} : ∀ (G F : List (Sp × Int)) (S : Mst), MOk F S -> MOk (F ++ G) (G.foldl dn1 S)
 | [], F, S, h => by rw [List.append_nil]; exact h
 | q :: r, F, S, h => by
  have := MOk.fold (S := S) r (F ++ [q]) (dn1 S q) (h.step q)
  (rw [List.append_assoc] at this)
  exact this
def mS (s : S) (S : Mst) : PF.S := s ++ [.lst (S.M.map D.da), .dct S.G, .dct S.L]
theorem mS0 {s : S} {S : Mst} : (mS s S)[s.length]? = some (.lst (S.M.map D.da)) := by simp [mS]
theorem mS1 {s : S} {S : Mst} : (mS s S)[s.length + 1]? = some (.dct S.G) := by simp [mS, List.getElem?_append_right]
theorem mS2 {s : S} {S : Mst} : (mS s S)[s.length + 2]? = some (.dct S.L) := by simp [mS, List.getElem?_append_right]
theorem mS0s {s : S} {S : Mst} {M : List PyData} : (mS s S).set s.length (.lst (M.map D.da)) = mS s ⟨M, S.G, S.L⟩ := by simp [mS]
theorem mS1s {s : S} {S : Mst} {G : KV} : (mS s S).set (s.length + 1) (.dct G) = mS s ⟨S.M, G, S.L⟩ := by simp [mS, List.set_append_right]
theorem mS2s {s : S} {S : Mst} {L : KV} : (mS s S).set (s.length + 2) (.dct L) = mS s ⟨S.M, S.G, L⟩ := by simp [mS, List.set_append_right]
noncomputable def dnB : FS := (fIfS (fTest (fOp gEq (fVar 7) (fC (.da (.str "port"))))) (fDrop (fMt gAppend (fVar 3) (fCons (fTup (fCons (fVar 8) (fCons (fOp gIx (fVar 2) (fVar 6)) fNil))) fNil))) (fIfS (fTest (fOp gEq (fVar 7) (fC (.da (.str "next"))))) (fSetIt2 gSet2 (fOp gIx (fVar 2) (fVar 6)) (fVar 5) (fVar 8)) (fSetIt2 gSet2 (fC (.da (.bool true))) (fVar 4) (fVar 8))))
theorem dn_body {s : S} {st h : D} {w : List Int} {k : Nat} {x : Int} {v : Option D} {S : Mst} {F : List (Sp × Int)} (p : Sp) (hw : w[k]? = some x) (hm : MOk F S) (hF : F.length <= 1000) :
  dnB [some st, some h, some (.da (wD w)), some (.ref s.length), some (.ref (s.length + 1)), some (.ref (s.length + 2)), some (.int (k : Int)), some (.str p.w), some (.da p.a), v] (mS s S) =
   .ok (.nx [some st, some h, some (.da (wD w)), some (.ref s.length), some (.ref (s.length + 1)), some (.ref (s.length + 2)), some (.int (k : Int)), some (.str p.w), some (.da p.a), v]) (mS s (dn1 S (p, x))) := by
 have ew : ∀ s2, gIx (.da (wD w)) (.int (k : Int)) s2 = .ok (.int x) s2 := fun s2 => gIx_tup (by rw [List.getElem?_map, hw]; rfl)
 have lg := hm.lg
 have ll := hm.ll
 unfold dnB
 walk_at "ev"
 cases p with
 | port y =>
  rw [show ∀ s2, gEq (.str (Sp.port y).w) (.str "port") s2 = .ok (.bl true) s2 from fun _ => rfl]
  walk_at "ev"
  rw [e_mt1 mS0]
  walk_at "ev"
  rw [ew]
  walk_at "ev"
  have hl : (S.M.map D.da).length < 16777216 := by
   rw [List.length_map, hm.m]
   have := prs_len F
   omega
  rw [append_ok mS0 hl]
  walk_at "ev"
  rw [show S.M.map D.da ++ [D.tup [(Sp.port y).a, .int x]] = (S.M ++ [PyData.tuple [.str y, .int x]]).map D.da by simp [Sp.a], mS0s]
  rfl
 | nxt j =>
  rw [show ∀ s2, gEq (.str (Sp.nxt j).w) (.str "port") s2 = .ok (.bl false) s2 from fun _ => rfl]
  walk_at "ev"
  rw [show ∀ s2, gEq (.str (Sp.nxt j).w) (.str "next") s2 = .ok (.bl true) s2 from fun _ => rfl]
  walk_at "ev"
  rw [ew]
  walk_at "ev"
  rw [show (Sp.nxt j).a = .int (j : Int) from rfl, dset_ref mS2 (kSame_i hm.kl) (by omega)]
  walk_at "ev"
  rw [mS2s]
  rfl
 | box j =>
  rw [show ∀ s2, gEq (.str (Sp.box j).w) (.str "port") s2 = .ok (.bl false) s2 from fun _ => rfl]
  walk_at "ev"
  rw [show ∀ s2, gEq (.str (Sp.box j).w) (.str "next") s2 = .ok (.bl false) s2 from fun _ => rfl]
  walk_at "ev"
  rw [show (Sp.box j).a = .int (j : Int) from rfl, dset_ref mS1 (kSame_i hm.kg) (by omega)]
  walk_at "ev"
  rw [mS1s]
  rfl
theorem dn_loop {s : S} {st h : D} {w : List Int} {k : Nat} {x : Int} {v : Option D} {all : List D} (hw : w[k]? = some x) : ∀ (sp : List Sp) (F : List (Sp × Int)) (S : Mst) (u1 u2 : Option D), MOk F S -> F.length + sp.length <= 1000 ->
  ∃ u1' u2', loopF (.t2 (.nm 7) (.nm 8)) dnB (all, none) ((sp.map Sp.d).map D.da) [some st, some h, some (.da (wD w)), some (.ref s.length), some (.ref (s.length + 1)), some (.ref (s.length + 2)), some (.int (k : Int)), u1, u2, v] (mS s S) =
   .ok (.nx [some st, some h, some (.da (wD w)), some (.ref s.length), some (.ref (s.length + 1)), some (.ref (s.length + 2)), some (.int (k : Int)), u1', u2', v]) (mS s ((sp.map fun p => (p, x)).foldl dn1 S))
 | [], F, S, u1, u2, _, _ => ⟨u1, u2, rfl⟩
 | p :: r, F, S, u1, u2, hm, hl => by
  obtain ⟨v1, v2, e2⟩ := dn_loop (s := s) (st := st) (h := h) (v := v) (all := all) hw r (F ++ [(p, x)]) (dn1 S (p, x)) (some (.str p.w)) (some (.da p.a)) (hm.step _) (by simp at hl ⊢; omega)
  refine ⟨v1, v2, ?_⟩
  rw [List.map_cons, List.map_cons, loop_cons (ρ1 := [some st, some h, some (.da (wD w)), some (.ref s.length), some (.ref (s.length + 1)), some (.ref (s.length + 2)), some (.int (k : Int)), some (.str p.w), some (.da p.a), v]) (by rw [Sp.eq]; rfl), dn_body p hw hm (by simp at hl; omega), R.bind_ok, loop_nx, e2]
  rfl
noncomputable def ouB : FS := (fFor (fIt (fOp gIx (fOp gIx (fOp gIx (fVar 0) (fC (.da (.int 2)))) (fVar 6)) (fC (.da (.int 0))))) (.t2 (.nm 7) (.nm 8)) dnB)
structure DnJ (st : Stp) (h : Hd) (w : List Int) (s : S) (r : List D) (ρ : En) (s' : S) : Prop where
 ex : ∃ (k : Nat) (M : Mst) (u1 u2 u3 : Option D), k <= w.length /\ r = rngD k (w.length - k) /\ MOk ((((st.ts.zip w).take k)).flatMap fun q => q.1.sp.map fun p => (p, q.2)) M /\
  ρ = [some (.da st.d), some (.da (hdD h)), some (.da (wD w)), some (.ref s.length), some (.ref (s.length + 1)), some (.ref (s.length + 2)), u1, u2, u3, none] /\ s' = mS s M
theorem zip_any {ts : List Ti} {w : List Int} (hl : ts.length = w.length) (j : Nat) : ((fl ts w).any fun q => isBox j q.1) = (spots ts).any (isBox j) := by
 have e : spots ts = (fl ts w).map (·.1) := by
  unfold spots fl
  rw [List.map_flatMap]
  have e2 : ts = (ts.zip w).map (·.1) := by rw [List.map_fst_zip (by omega)]
  conv => lhs; rw [e2]
  rw [List.flatMap_map]
  congr 1
  funext q
  rw [List.map_map, show ((fun x : Sp × Int => x.1) ∘ fun p => (p, q.2)) = id from rfl, List.map_id]
 rw [e, List.any_map]; rfl
structure DW {α : Type} (r : R α) (Q : α -> S -> Prop) : Prop where
 w : r.W Q
theorem DW.mono {α : Type} {r : R α} {Q Q' : α -> S -> Prop} (h : DW r Q) (k : ∀ a s, Q a s -> Q' a s) : r.W Q' := R.W_mono h.w k
theorem done_ok {s : S} {st : Stp} {h : Hd} {w : List Int} {b : Nat} (hl : st.ts.length = w.length) (hb : ∀ t ∈ st.ts, ∀ p ∈ t.sp, inB h.length p = true) (h9 : ∀ t ∈ st.ts, t.sp.length <= 9) (hn : st.ts.length <= 3) (hh : h.length <= 1000) (hf : FlOk b (fl st.ts w)) :
  DW (F_law_done [.da st.d, .da (hdD h), .da (wD w)] s) fun d s' => d = .tup [.tuple (srtD (prs (fl st.ts w))), .tuple [.int st.b, hdD (sb st.ts w h)]] /\ Ext s s' := by
 have hfl := fl_len (w := w) h9 hn
 have pre : ∀ k, ((((st.ts.zip w).take k)).flatMap fun q => q.1.sp.map fun p => (p, q.2)).length <= 27 := fun k => by
  refine Nat.le_trans ?_ hfl
  unfold fl
  conv => rhs; rw [← List.take_append_drop k (st.ts.zip w)]
  rw [List.flatMap_append, List.length_append]; omega
 refine ⟨?_⟩
 rw [e_law_done]; unfold B_law_done
 walk_at "go"
 have elen : ∀ s2, gLen [.da (wD w)] s2 = .ok (.int w.length) s2 := fun s2 => by
  show gLen [.tup (w.map PyData.int)] s2 = _
  rw [len_tup, List.length_map]
 rw [elen]
 walk_at "go"
 rw [rng_ok (by omega) (by omega)]
 walk_at "go"
 show (loopF (.nm 6) ouB _ _ _ (mS s ⟨[], [], []⟩)).W _
 rw [show ((w.length : Int)).toNat = w.length from Int.toNat_natCast _]
 refine loop_inv (DnJ st h w s) ?_ ?_ _ _ _ ⟨0, ⟨[], [], []⟩, none, none, none, Nat.zero_le _, rfl, MOk.nil, rfl, rfl⟩
 ·rintro d r ρ s' ⟨k, M, u1, u2, u3, hk, e2, hm, rfl, rfl⟩
  by_cases hkw : k < w.length
  ·rw [show w.length - k = (w.length - (k + 1)) + 1 by omega, rngD, List.cons.injEq] at e2
   obtain ⟨rfl, rfl⟩ := e2
   have hx : w[k]? = some w[k] := List.getElem?_eq_getElem hkw
   have hkt : k < st.ts.length := by omega
   have htk : st.ts[k]? = some st.ts[k] := List.getElem?_eq_getElem hkt
   have hmem : st.ts[k] ∈ st.ts := List.getElem_mem hkt
   refine ⟨[some (.da st.d), some (.da (hdD h)), some (.da (wD w)), some (.ref s.length), some (.ref (s.length + 1)), some (.ref (s.length + 2)), some (.int (k : Int)), u2, u3, none], rfl, ?_⟩
   unfold ouB
   walk_at "go"
   rw [show ∀ s2, gIx (.da st.d) (.int 2) s2 = .ok (.tup (st.ts.map Ti.d)) s2 from fun _ => it2]
   walk_at "go"
   rw [show ∀ s2, gIx (.tup (st.ts.map Ti.d)) (.int (k : Int)) s2 = .ok (.da (st.ts[k].d)) s2 from fun _ => gIx_tup (by rw [List.getElem?_map, htk]; rfl)]
   walk_at "go"
   rw [show ∀ s2, gIx (.da (st.ts[k].d)) (.int 0) s2 = .ok (.tup (st.ts[k].sp.map Sp.d)) s2 from fun _ => it0]
   walk_at "go"
   have l9 := h9 _ hmem
   have hp := pre k
   obtain ⟨v1, v2, e⟩ := dn_loop (s := s) (st := .da st.d) (h := .da (hdD h)) (v := none) (all := (st.ts[k].sp.map Sp.d).map D.da) hx st.ts[k].sp _ M u2 u3 hm (by omega)
   rw [e]
   refine ⟨k + 1, _, _, _, _, hkw, by rw [Int.natCast_succ], ?_, rfl, rfl⟩
   have ez : (st.ts.zip w).take (k + 1) = (st.ts.zip w).take k ++ [(st.ts[k], w[k])] := by
    rw [List.take_succ, List.getElem?_zip_eq_some (z := (st.ts[k], w[k])) |>.mpr ⟨htk, hx⟩]; rfl
   rw [ez, List.flatMap_append]
   have := MOk.fold (S := M) (st.ts[k].sp.map fun p => (p, w[k])) _ M hm
   simpa using this
  ·rw [show w.length - k = 0 by omega] at e2
   cases e2
 ·rintro ρ s' ⟨k, M, u1, u2, u3, hk, e2, hm, rfl, rfl⟩
  have hkw : k = w.length := by
   by_cases z : k < w.length
   ·rw [show w.length - k = (w.length - (k + 1)) + 1 by omega] at e2
    cases e2
   ·omega
  subst hkw
  have ez : (st.ts.zip w).take w.length = st.ts.zip w := List.take_of_length_le (by rw [List.length_zip]; omega)
  rw [ez] at hm
  have hm : MOk (fl st.ts w) M := hm
  walk_at "go"
  have elh : ∀ s2, gLen [.da (hdD h)] s2 = .ok (.int h.length) s2 := fun s2 => by
   show gLen [.tup (h.map hD)] s2 = _
   rw [len_tup, List.length_map]
  rw [elh]
  walk_at "go"
  rw [rng_ok (by omega) (by omega), show ((h.length : Int)).toNat = h.length from Int.toNat_natCast _]
  walk_at "go"
  rw [e_lc1 (ρ0 := [none, some (.ref (s.length + 2)), some (.ref (s.length + 1)), some (.da (hdD h))]) (by rw [rng_len]; omega) rfl]
  rw [show rngD 0 h.length = (List.range h.length).map (fun i : Nat => D.int (i : Int)) from by
   apply List.ext_getElem?
   intro i
   by_cases hi : i < h.length
   ·rw [rng_get _ _ _ hi, List.getElem?_map, List.getElem?_range hi]; simp
   ·rw [List.getElem?_eq_none (by rw [rng_len]; omega), List.getElem?_eq_none (by simp; omega)]]
  rw [comp_da (fun i : Nat => D.int (i : Int)) (fun _ => true) (fun i => hD (bhv st.ts w h i)) (List.range h.length) fun i hi => ⟨[some (.int (i : Int)), some (.ref (s.length + 2)), some (.ref (s.length + 1)), some (.da (hdD h))], rfl, rfl, fun _ => by
   have hi : i < h.length := List.mem_range.mp hi
   walk_at "ev"
   rw [e_md1 mS2]
   walk_at "ev"
   rw [in2_ref mS1 (kSame_i hm.kg), hm.g i, zip_any hl]
   walk_at "ev"
   unfold bhv
   cases hz : (spots st.ts).any (isBox i) with
   | true =>
    walk_at "ev"
    rw [dget2_ref mS2 (kSame_i hm.kl), hm.l i]
    cases (fl st.ts w).foldl (nx1 i) none <;> rfl
   | false =>
    walk_at "ev"
    rw [ix_hd hi]
    walk_at "ev"
    rw [dget2_ref mS2 (kSame_i hm.kl), hm.l i]
    cases (fl st.ts w).foldl (nx1 i) none <;> rfl⟩]
  rw [show (List.range h.length).filter (fun _ => true) = List.range h.length by simp]
  walk_at "go"
  rw [sorted_ref (by rw [mS0, hm.m]) (Nat.lt_of_le_of_lt (prs_len _) (Nat.lt_of_le_of_lt hfl (by decide))) cmpb_pairs (prs_okD (b := b) hf)]
  walk_at "go"
  rw [show ∀ s2, gIx (.da st.d) (.int 3) s2 = .ok (.int st.b) s2 from fun _ => it3]
  walk_at "go"
  refine ⟨?_, Ext.add _ _⟩
  rw [sb_map]
  unfold hdD
  rw [List.map_map]; rfl
end Ln
namespace Ln
open PySem L2 PF
def stD (p : Int) (h : Hd) : PyData := .tuple [.int p, hdD h]
def keyOf (st : Stp) (h : Hd) (w : List Int) : PyData := .tuple [.tuple (srtD (prs (fl st.ts w))), .tuple [.int st.b, hdD (sb st.ts w h)]]
noncomputable def mvStep (h : Hd) (ks : List PyData) (st : Stp) : List PyData := (prod (st.ts.map (tf h))).foldl (fun ks w => addK ks (keyOf st h w)) ks
noncomputable def mv (sts : List Stp) (p : Int) (h : Hd) : List PyData := (sts.filter fun st => decide (st.a = p)).foldl (mvStep h) [.tuple [.tuple [], stD p h]]
def plOk (p : Int) : Bool := decide (0 <= p) && decide (p <= 1000000000000)
theorem nice_pl {p : Int} (h : plOk p = true) : Nice 0 0 (.int p) := by
 unfold plOk at h
 simp only [Bool.and_eq_true, decide_eq_true_eq] at h
 by_cases e : p = 1000000000000
 ·subst e
  exact ⟨by decide +kernel, by decide +kernel, rfl, Nat.le_refl _, by simp [PyData.depth]⟩
 ·exact nice_int (by omega)
def hdOk (h : Hd) : Prop := ∀ o ∈ h, ∀ x, o = some x -> 0 <= x /\ x < 3
theorem nice_hd {h : Hd} (hl : h.length <= 1000) (ho : hdOk h) : Nice 1000 1 (hdD h) := by
 have h1 := nices_all (B := 0) (D := 0) (h.map hD) fun d hd => by
  obtain ⟨o, ho', rfl⟩ := List.mem_map.mp hd
  cases o with
  | none => exact nice_none
  | some x => exact nice_few (ho _ ho' x rfl)
 rw [List.length_map] at h1
 exact (h1.mono (B' := 1000) (by omega) (Nat.le_refl _)).tup
theorem nice_st {p : Int} {h : Hd} (hp : plOk p = true) (hl : h.length <= 1000) (ho : hdOk h) : Nice 1002 2 (stD p h) :=
 ((Nices.cons ((nice_pl hp).mono (Nat.le_refl _) (by decide)) (Nices.cons (nice_hd hl ho) Nices.nil)).tup).mono (by decide) (by decide)
structure StOk (b : Nat) (st : Stp) : Prop where
 ti : ∀ t ∈ st.ts, TiN b t
 n3 : st.ts.length <= 3
 a : plOk st.a = true
 b : plOk st.b = true
 ps : ∃ xs : List Str, st.ps = xs.map PyData.str /\ xs.length <= 9 /\ ∀ x ∈ xs, okPort x = true
theorem way_few {h : Hd} {ts : List Ti} {b : Nat} (ht : ∀ t ∈ ts, TiN b t) : ∀ w ∈ prod (ts.map (tf h)), w.length = ts.length /\ ∀ x ∈ w, 0 <= x /\ x < 3 := by
 induction ts with
 | nil => intro w hw; simp [prod] at hw; rw [hw]; exact ⟨rfl, fun x hx => by cases hx⟩
 | cons t r ih =>
  intro w hw
  have hw : w ∈ (tf h t).flatMap fun x => (prod (r.map (tf h))).map (x :: ·) := hw
  obtain ⟨x, hx, hw⟩ := List.mem_flatMap.mp hw
  obtain ⟨v, hv, rfl⟩ := List.mem_map.mp hw
  obtain ⟨i1, i2⟩ := ih (fun y hy => ht y (List.mem_cons_of_mem _ hy)) v hv
  refine ⟨by simp [i1], fun y hy => ?_⟩
  rcases List.mem_cons.mp hy with z | z
  ·rw [z]; exact (ht t List.mem_cons_self).ti x (List.mem_filter.mp hx).1
  ·exact i2 y z
theorem fl_ok {ts : List Ti} {b : Nat} {w : List Int} (ht : ∀ t ∈ ts, TiN b t) (hw : ∀ x ∈ w, 0 <= x /\ x < 3) : FlOk b (fl ts w) := by
 intro q hq
 unfold fl at hq
 obtain ⟨⟨t, x⟩, hz, hq⟩ := List.mem_flatMap.mp hq
 (obtain ⟨p, hp, rfl⟩ := List.mem_map.mp hq)
 obtain ⟨m1, m2⟩ := List.of_mem_zip hz
 exact ⟨(ht t m1).sp p hp, (ht t m1).pt p hp, hw x m2⟩
theorem gone_hd : ∀ (l : List Sp) (B : Hd), hdOk B -> hdOk (l.foldl gone1 B)
 | [], B, h => h
 | p :: r, B, h => by
  rw [List.foldl_cons]
  refine gone_hd r _ ?_
  cases p with
  | port y => exact h
  | nxt k => exact h
  | box k =>
   intro o ho x e
   rcases List.mem_or_eq_of_mem_set ho with z | z
   ·exact h o z x e
   ·rw [z] at e; cases e
theorem lay_hd : ∀ (l : List (Sp × Int)) (B : Hd), (∀ q ∈ l, 0 <= q.2 /\ q.2 < 3) -> hdOk B -> hdOk (l.foldl lay1 B)
 | [], B, _, h => h
 | (p, y) :: r, B, hl, h => by
  rw [List.foldl_cons]
  refine lay_hd r _ (fun q hq => hl q (List.mem_cons_of_mem _ hq)) ?_
  cases p with
  | port z => exact h
  | box k => exact h
  | nxt k =>
   intro o ho x e
   rcases List.mem_or_eq_of_mem_set ho with z | z
   ·exact h o z x e
   ·rw [z] at e; cases e; exact hl _ List.mem_cons_self
theorem sb_ok {ts : List Ti} {w : List Int} {h : Hd} {b : Nat} (hf : FlOk b (fl ts w)) (hh : hdOk h) : hdOk (sb ts w h) := lay_hd _ _ (fun q hq => (hf q hq).2.2) (gone_hd _ _ hh)
theorem nice_key {st : Stp} {h : Hd} {w : List Int} {b : Nat} (hs : StOk b st) (hf : FlOk b (fl st.ts w)) (hl : h.length <= 1000) (hh : hdOk h) : Nice 1700 3 (keyOf st h w) := by
 have hfl := fl_len (w := w) (fun t ht => (hs.ti t ht).l9) hs.n3
 have h1 := nices_all (B := 22) (D := 1) (srtD (prs (fl st.ts w))) fun d hd => nice_prs hf ((srtD_perm _).mem_iff.mp hd)
 rw [(srtD_perm _).length_eq] at h1
 have := prs_len (fl st.ts w)
 have h2 := (h1.mono (B' := 621) (by omega) (Nat.le_refl _)).tup
 have h3 := nice_st (p := st.b) (h := sb st.ts w h) hs.b (by rw [sb_len]; exact hl) (sb_ok hf hh)
 exact ((Nices.cons h2 (Nices.cons h3 Nices.nil)).tup).mono (by decide) (by decide)
theorem pl_hd (h : Hd) : plD (hdD h) = true := by
 unfold hdD
 rw [plD_tup, plDs_all, List.all_map]
 exact List.all_eq_true.mpr fun o _ => by cases o <;> rfl
theorem pl_key {st : Stp} {h : Hd} {w : List Int} : plD (keyOf st h w) = true := by
 unfold keyOf
 rw [plD_tup, plDs_cons, plDs_cons, plD_tup, plD_tup, plDs_cons, plDs_cons, pl_hd, plDs_all]
 rw [show (srtD (prs (fl st.ts w))).all plD = true from List.all_eq_true.mpr fun d hd => by
  obtain ⟨y, x, _, rfl⟩ := prs_mem ((srtD_perm _).mem_iff.mp hd)
  rfl]
 rfl
theorem isT_of {d : PyData} {B D : Nat} (ht : ∃ xs, d = .tuple xs) (hp : plD d = true) (hn : Nice B D d) (hd : D <= 8) : isT d = true := by
 obtain ⟨xs, rfl⟩ := ht
 exact keyOk_iff.mpr ⟨hp, hn.cl, Nat.le_trans hn.dp hd⟩
theorem isT_key {st : Stp} {h : Hd} {w : List Int} {b : Nat} (hs : StOk b st) (hf : FlOk b (fl st.ts w)) (hl : h.length <= 1000) (hh : hdOk h) : isT (keyOf st h w) = true := isT_of ⟨_, rfl⟩ pl_key (nice_key hs hf hl hh) (by decide)
theorem nice_k0 {p : Int} {h : Hd} (hp : plOk p = true) (hl : h.length <= 1000) (ho : hdOk h) : Nice 1700 3 (.tuple [.tuple [], stD p h]) :=
 ((Nices.cons ((Nices.nil (D := 0)).tup.mono (Nat.le_refl _) (by decide)) (Nices.cons (nice_st hp hl ho) Nices.nil)).tup).mono (by decide) (by decide)
theorem isT_k0 {p : Int} {h : Hd} (hp : plOk p = true) (hl : h.length <= 1000) (ho : hdOk h) : isT (.tuple [.tuple [], stD p h]) = true := by
 refine isT_of ⟨_, rfl⟩ ?_ (nice_k0 hp hl ho) (by decide)
 unfold stD
 rw [plD_tup, plDs_cons, plDs_cons, plD_tup, plD_tup, plDs_cons, plDs_cons, pl_hd]; rfl
structure KsOk (ks : List PyData) (kvs : KV) : Prop where
 e : kvs.map (·.1) = ks
 t : ∀ k ∈ ks, isT k = true
theorem KsOk.same {ks : List PyData} {kvs : KV} {k : PyData} (h : KsOk ks kvs) (hk : isT k = true) : kSame kvs k = true := by
 unfold kSame
 rw [hk, Bool.true_and]
 have : (kvs.all fun e => isT e.1) = true := List.all_eq_true.mpr fun e he => h.t _ (by rw [← h.e]; exact List.mem_map.mpr ⟨e, he, rfl⟩)
 rw [this, Bool.or_true]
theorem KsOk.put {ks : List PyData} {kvs : KV} {k : PyData} {v : D} (h : KsOk ks kvs) (hk : isT k = true) : KsOk (addK ks k) (dPut kvs k v) := by
 refine ⟨by rw [put_keys, h.e], fun x hx => ?_⟩
 unfold addK at hx
 split at hx
 ·exact h.t x hx
 ·rcases List.mem_append.mp hx with z | z
  ·exact h.t x z
  ·rw [List.mem_singleton.mp z]; exact hk
theorem KsOk.len {ks : List PyData} {kvs : KV} (h : KsOk ks kvs) : kvs.length = ks.length := by rw [← h.e, List.length_map]
theorem addK_len (ks : List PyData) (k : PyData) : (addK ks k).length <= ks.length + 1 := by
 unfold addK
 split
 ·omega
 ·simp
theorem dct_new {s : S} {k : PyData} (hk : isT k = true) : kDp s.length [(.da k, .bl true)] (s ++ [.dct []]) = .ok (.ref s.length) (s ++ [.dct [(k, .bl true)]]) := by
 have e : gDset (.ref s.length) (.da k) (.bl true) (s ++ [.dct []]) = .ok .non (s ++ [.dct [(k, .bl true)]]) := by
  unfold gDset
  rw [onD_ref (get_app (g := []))]
  show (if kSame ([] : KV) k = true /\ ([] : KV).length < sizeLine then R.ok D.non ((s ++ [O.dct []]).set s.length (.dct (dPut [] k (.bl true)))) else .bad) = _
  rw [if_pos ⟨by unfold kSame; rw [hk]; simp, by decide⟩, set_app]
  rfl
 unfold kDp putAll
 rw [e]
 rfl
end Ln
namespace Ln
open PySem L2 PF
structure MvJ (s : S) (ks : List PyData) (s' : S) : Prop where
 ex : ∃ (kvs : KV) (g : S), KsOk ks kvs /\ s' = s ++ O.dct kvs :: g
theorem MvJ.ext {s s' s2 : S} {ks : List PyData} (h : MvJ s ks s') (x : Ext s' s2) : MvJ s ks s2 := by
 obtain ⟨kvs, g, k, rfl⟩ := h.ex
 obtain ⟨g2, rfl⟩ := x.ex
 exact ⟨kvs, g ++ g2, k, by simp⟩
theorem MvJ.put {s s' : S} {ks : List PyData} {k : PyData} (h : MvJ s ks s') (hk : isT k = true) (hl : ks.length <= 100000) : ∃ s2, gSet2 (.ref s.length) (.da k) (.bl true) s' = .ok .non s2 /\ MvJ s (addK ks k) s2 := by
 obtain ⟨kvs, g, c, rfl⟩ := h.ex
 refine ⟨_, dset_ref get_app (c.same hk) (by rw [c.len]; omega), _, g, c.put (v := .bl true) hk, ?_⟩
 rw [set_app]
theorem prod_27 {h : Hd} {ts : List Ti} {b : Nat} (ht : ∀ t ∈ ts, TiN b t) (hn : ts.length <= 3) : (prod (ts.map (tf h))).length <= 27 := by
 refine Nat.le_trans (prod_len fun c hc => ?_) ?_
 ·obtain ⟨y, hy, rfl⟩ := List.mem_map.mp hc
  exact tf_few (ht y hy).toTiOk
 ·rw [List.length_map]
  calc 3 ^ ts.length <= 3 ^ 3 := Nat.pow_le_pow_right (by decide) hn
   _ = 27 := by decide
theorem mvStep_len {h : Hd} {st : Stp} {b : Nat} (hs : StOk b st) (ks : List PyData) : (mvStep h ks st).length <= ks.length + 27 := by
 have g : ∀ (W : List (List Int)) (ks : List PyData), (W.foldl (fun ks w => addK ks (keyOf st h w)) ks).length <= ks.length + W.length := fun W => by
  induction W with
  | nil => intro ks; exact Nat.le_refl _
  | cons w r ih =>
   intro ks
   have h1 := ih (addK ks (keyOf st h w))
   have h2 := addK_len ks (keyOf st h w)
   rw [List.foldl_cons, List.length_cons]; omega
 have h1 := g (prod (st.ts.map (tf h))) ks
 have h2 := prod_27 (h := h) hs.ti hs.n3
 unfold mvStep
 omega
structure InJ (st : Stp) (p : Int) (h : Hd) (s : S) (ks0 : List PyData) (a0 : D) (r : List D) (ρ : En) (s' : S) : Prop where
 ex : ∃ (W V : List (List Int)) (u : Option D), prod (st.ts.map (tf h)) = W ++ V /\ r = (V.map wD).map D.da /\
  ρ = [some a0, some (.da (stD p h)), some (.da (hdD h)), some (.ref s.length), some (.da st.d), u] /\ MvJ s (W.foldl (fun ks w => addK ks (keyOf st h w)) ks0) s'
theorem in_len {st : Stp} {h : Hd} {b : Nat} (hs : StOk b st) {W V : List (List Int)} (e : prod (st.ts.map (tf h)) = W ++ V) {ks : List PyData} (hk : ks.length <= 1000) : (W.foldl (fun ks w => addK ks (keyOf st h w)) ks).length <= 100000 := by
 have g : ∀ (W : List (List Int)) (ks : List PyData), (W.foldl (fun ks w => addK ks (keyOf st h w)) ks).length <= ks.length + W.length := fun W => by
  induction W with
  | nil => intro ks; exact Nat.le_refl _
  | cons w r ih =>
   intro ks
   have h1 := ih (addK ks (keyOf st h w))
   have h2 := addK_len ks (keyOf st h w)
   rw [List.foldl_cons, List.length_cons]; omega
 have h1 := g W ks
 have h2 := prod_27 (h := h) hs.ti hs.n3
 rw [e, List.length_append] at h2
 omega
noncomputable def inB1 : FS := (fSetIt2 gSet2 (fC (.da (.bool true))) (fVar 3) (fTup (fCons (fCall 2 Fmoment_of (fCons (fVar 4) (fCons (fVar 5) fNil))) (fCons (fCall 3 Fstand_by (fCons (fVar 4) (fCons (fVar 2) (fCons (fVar 5) fNil)))) fNil))))
noncomputable def mbB : FS := (fFor (fIt (fCall 3 Fdoings (fCons (fVar 4) (fCons (fVar 2) (fCons fDct0 fNil))))) (.nm 5) inB1)
structure MbJ (sts : List Stp) (p : Int) (h : Hd) (s : S) (r : List D) (ρ : En) (s' : S) : Prop where
 ex : ∃ (ds rs : List Stp) (u v : Option D), sts = ds ++ rs /\ r = (rs.map Stp.d).map D.da /\
  ρ = [some (.lst (sts.map Stp.d)), some (.da (stD p h)), some (.da (hdD h)), some (.ref s.length), u, v] /\ (ds.foldl (mvStep h) [.tuple [.tuple [], stD p h]]).length <= 1 + 27 * ds.length /\ MvJ s (ds.foldl (mvStep h) [.tuple [.tuple [], stD p h]]) s'
theorem moves_by_ok {s : S} {sts : List Stp} {p : Int} {h : Hd} (hs : ∀ st ∈ sts, StOk h.length st) (hn : sts.length <= 10) (hp : plOk p = true) (hl : h.length <= 1000) (ho : hdOk h) :
  (Fmoves_by [.lst (sts.map Stp.d), .da (stD p h)] s).W fun d s' => ∃ s2, Ext s s2 /\ d = .ref s2.length /\ s' = s2 ++ [.lst ((sts.foldl (mvStep h) [.tuple [.tuple [], stD p h]]).map D.da)] := by
 rw [emoves_by]; unfold Bmoves_by
 walk_at "go"
 rw [show ∀ s2, gIx (.da (stD p h)) (.int 1) s2 = .ok (.da (hdD h)) s2 from fun _ => it1]
 walk_at "go"
 rw [show (D.tup [.tuple [], stD p h]) = .da (.tuple [.tuple [], stD p h]) from rfl, dct_new (isT_k0 hp hl ho)]
 walk_at "go"
 show (loopF (.nm 4) mbB _ _ _ _).W _
 refine loop_inv (MbJ sts p h s) ?_ ?_ _ _ _ ⟨[], sts, none, none, rfl, rfl, rfl, Nat.le_refl _, ⟨_, [], ⟨rfl, fun k hk => by rw [List.mem_singleton.mp hk]; exact isT_k0 hp hl ho⟩, rfl⟩⟩
 ·rintro d r ρ s' ⟨ds, rs, u, v, e1, e2, rfl, e4, hm⟩
  cases rs with
  | nil => cases e2
  | cons st rs =>
   rw [List.map_cons, List.map_cons, List.cons.injEq] at e2
   obtain ⟨rfl, rfl⟩ := e2
   refine ⟨[some (.lst (sts.map Stp.d)), some (.da (stD p h)), some (.da (hdD h)), some (.ref s.length), some (.da st.d), v], rfl, ?_⟩
   have hst : StOk h.length st := hs st (by rw [e1]; simp)
   have hds : ds.length <= 10 := by rw [e1] at hn; simp at hn; omega
   unfold mbB
   walk_at "go"
   refine R.W_mono (doings_ok (h := h) (st := st) (get_app (g := [])) (fun t ht => (hst.ti t ht).toTiOk) hst.n3) ?_
   rintro _ s2 ⟨rfl, x2⟩
   walk_at "go"
   rw [show ∀ W s2, gIter (lsD W) s2 = .ok ((W.map wD).map D.da, none) s2 from fun _ _ => rfl]
   walk_at "go"
   refine loop_inv (InJ st p h s (ds.foldl (mvStep h) [.tuple [.tuple [], stD p h]]) (.lst (sts.map Stp.d))) ?_ ?_ _ _ _ ⟨[], _, v, rfl, rfl, rfl, hm.ext ((Ext.add _ _).trans x2)⟩
   ·rintro d r ρ s3 ⟨W, V, u, f1, f2, rfl, hm3⟩
    cases V with
    | nil => cases f2
    | cons w V =>
     rw [List.map_cons, List.map_cons, List.cons.injEq] at f2
     obtain ⟨rfl, rfl⟩ := f2
     refine ⟨[some (.lst (sts.map Stp.d)), some (.da (stD p h)), some (.da (hdD h)), some (.ref s.length), some (.da st.d), some (.da (wD w))], rfl, ?_⟩
     have hw := way_few (h := h) hst.ti w (by rw [f1]; simp)
     have hf := fl_ok (w := w) hst.ti hw.2
     unfold inB1
     walk_at "go"
     refine R.W_mono (moment_ok (fun t ht => (hst.ti t ht).l9) hst.n3 hf) ?_
     rintro _ s4 ⟨rfl, x4⟩
     walk_at "go"
     refine R.W_mono (stand_ok (w := w) fun t ht q hq => (hst.ti t ht).sp q hq) ?_
     rintro _ s5 ⟨rfl, x5⟩
     walk_at "go"
     obtain ⟨s6, e6, m6⟩ := (hm3.ext (x4.trans x5)).put (isT_key hst hf hl ho) (in_len hst f1 (by omega))
     rw [show (D.tup [.tuple (srtD (prs (fl st.ts w))), .tuple [.int st.b, hdD (sb st.ts w h)]]) = .da (keyOf st h w) from rfl, e6]
     walk_at "go"
     exact ⟨W ++ [w], V, _, by rw [f1]; simp, rfl, rfl, by rw [List.foldl_append]; exact m6⟩
   ·rintro ρ s3 ⟨W, V, u, f1, f2, rfl, hm3⟩
    cases V with
    | cons w V => cases f2
    | nil =>
     rw [List.append_nil] at f1
     subst f1
     have := mvStep_len (h := h) hst (ds.foldl (mvStep h) [.tuple [.tuple [], stD p h]])
     refine ⟨ds ++ [st], rs, _, _, by rw [e1]; simp, rfl, rfl, ?_, ?_⟩
     ·rw [List.foldl_append, List.length_append]
      show (mvStep h _ st).length <= 1 + 27 * (ds.length + 1)
      omega
     ·rw [List.foldl_append]; exact hm3
 ·rintro ρ s' ⟨ds, rs, u, v, e1, e2, rfl, e4, hm⟩
  cases rs with
  | cons q rs => cases e2
  | nil =>
   rw [List.append_nil] at e1
   subst e1
   obtain ⟨kvs, g, c, rfl⟩ := hm.ex
   walk_at "go"
   rw [list2_new get_app, c.e]
   walk_at "go"
   exact ⟨s ++ O.dct kvs :: g, Ext.add _ _, by simp, by simp⟩
structure Mc where
 n : Int
 ps : List PyData
 b : Nat
 p : Int
 h : Hd
 sts : List Stp
def Mc.d (m : Mc) : PyData := .tuple [.int m.n, .tuple m.ps, .int m.b, stD m.p m.h, .tuple (m.sts.map Stp.d)]
theorem eq_pl (a p : Int) (s : S) : gEq (.int a) (.int p) s = .ok (.bl (decide (a = p))) s := by
 rw [show D.int a = .da (.int a) from rfl, show D.int p = .da (.int p) from rfl, gEq_da rfl rfl]
 have := eqv_i a (some p)
 rw [show hD (some p) = .int p from rfl] at this
 rw [this]
 congr 2
 rw [decide_eq_decide]
 exact ⟨fun e => by cases e; rfl, fun e => by rw [e]⟩
theorem moves_from_ok {s : S} {m : Mc} {p : Int} {h : Hd} (hs : ∀ st ∈ m.sts, StOk h.length st) (hn : m.sts.length <= 10) (hp : plOk p = true) (hl : h.length <= 1000) (ho : hdOk h) :
  (Fmoves_from [.da m.d, .da (stD p h)] s).W fun d s' => ∃ s2, Ext s s2 /\ d = .ref s2.length /\ s' = s2 ++ [.lst ((mv m.sts p h).map D.da)] := by
 rw [emoves_from]; unfold Bmoves_from
 walk_at "go"
 rw [show ∀ s2, gIx (.da m.d) (.int 4) s2 = .ok (.tup (m.sts.map Stp.d)) s2 from fun _ => it4]
 walk_at "go"
 rw [e_lc1 (ρ0 := [none, some (.da (stD p h))]) (by simp; omega) rfl]
 rw [show (m.sts.map Stp.d).map D.da = m.sts.map (fun st => D.da st.d) by rw [List.map_map]; rfl]
 rw [comp_da (fun st : Stp => D.da st.d) (fun st => decide (st.a = p)) Stp.d m.sts fun st _ => ⟨[some (.da st.d), some (.da (stD p h))], rfl, by
  walk_at "ev"
  rw [show gIx (.da st.d) (.int 0) s = .ok (.int st.a) s from it0]
  walk_at "ev"
  rw [show gIx (.da (stD p h)) (.int 0) s = .ok (.int p) s from it0]
  walk_at "ev"
  rw [eq_pl]
  walk_at "ev", fun _ => rfl⟩]
 walk_at "go"
 refine R.W_mono (moves_by_ok (fun st hst => hs st (List.mem_filter.mp hst).1) (Nat.le_trans (List.length_filter_le _ _) hn) hp hl ho) ?_
 rintro _ s1 ⟨s2, x, rfl, rfl⟩
 walk_at "go"
 exact ⟨s2, x, rfl, rfl⟩
structure LnJ (st : Stp) (p : Int) (h : Hd) (s : S) (ks0 : List PyData) (a0 : D) (r : List D) (ρ : En) (s' : S) : Prop where
 ex : ∃ (W V : List (List Int)) (u : Option D), prod (st.ts.map (tf h)) = W ++ V /\ r = (V.map wD).map D.da /\
  ρ = [some a0, some (.da (stD p h)), some (.ref s.length), some (.da st.d), u] /\ MvJ s (W.foldl (fun ks w => addK ks (keyOf st h w)) ks0) s'
noncomputable def lnB : FS := (fSetIt2 gSet2 (fC (.da (.bool true))) (fVar 2) (fCall 3 F_law_done (fCons (fVar 3) (fCons (fOp gIx (fVar 1) (fC (.da (.int 1)))) (fCons (fVar 4) fNil)))))
noncomputable def lmB : FS := (fIfS (fTest (fOp gEq (fOp gIx (fVar 3) (fC (.da (.int 0)))) (fOp gIx (fVar 1) (fC (.da (.int 0)))))) (fFor (fIt (fCall 2 (F_law_doings 6) (fCons (fOp gIx (fVar 3) (fC (.da (.int 2)))) (fCons (fOp gIx (fVar 1) (fC (.da (.int 1)))) fNil)))) (.nm 4) lnB) fNext)
structure LmJ (m : Mc) (p : Int) (h : Hd) (s : S) (r : List D) (ρ : En) (s' : S) : Prop where
 ex : ∃ (ds rs : List Stp) (u v : Option D), m.sts = ds ++ rs /\ r = (rs.map Stp.d).map D.da /\
  ρ = [some (.da m.d), some (.da (stD p h)), some (.ref s.length), u, v] /\ (mv ds p h).length <= 1 + 27 * ds.length /\ MvJ s (mv ds p h) s'
theorem mv_app {ds : List Stp} {st : Stp} {p : Int} {h : Hd} : mv (ds ++ [st]) p h = if st.a = p then mvStep h (mv ds p h) st else mv ds p h := by
 unfold mv
 rw [List.filter_append, List.foldl_append]
 by_cases e : st.a = p
 ·rw [if_pos e, List.filter_cons_of_pos (by simp [e])]; rfl
 ·rw [if_neg e, List.filter_cons_of_neg (by simp [e])]; rfl
theorem law_moves_ok {s : S} {m : Mc} {p : Int} {h : Hd} (hs : ∀ st ∈ m.sts, StOk h.length st) (hn : m.sts.length <= 10) (hp : plOk p = true) (hl : h.length <= 1000) (ho : hdOk h) :
  (F_law_moves [.da m.d, .da (stD p h)] s).W fun d s' => d = .lst (mv m.sts p h) /\ Ext s s' := by
 rw [e_law_moves]; unfold B_law_moves
 walk_at "go"
 rw [show (D.tup [.tuple [], stD p h]) = .da (.tuple [.tuple [], stD p h]) from rfl, dct_new (isT_k0 hp hl ho)]
 walk_at "go"
 rw [show ∀ s2, gIx (.da m.d) (.int 4) s2 = .ok (.tup (m.sts.map Stp.d)) s2 from fun _ => it4]
 walk_at "go"
 show (loopF (.nm 3) lmB _ _ _ _).W _
 refine loop_inv (LmJ m p h s) ?_ ?_ _ _ _ ⟨[], m.sts, none, none, rfl, rfl, rfl, Nat.le_refl _, ⟨_, [], ⟨rfl, fun k hk => by rw [List.mem_singleton.mp hk]; exact isT_k0 hp hl ho⟩, rfl⟩⟩
 ·rintro d r ρ s' ⟨ds, rs, u, v, e1, e2, rfl, e4, hm⟩
  cases rs with
  | nil => cases e2
  | cons st rs =>
   rw [List.map_cons, List.map_cons, List.cons.injEq] at e2
   obtain ⟨rfl, rfl⟩ := e2
   refine ⟨[some (.da m.d), some (.da (stD p h)), some (.ref s.length), some (.da st.d), v], rfl, ?_⟩
   have hst : StOk h.length st := hs st (by rw [e1]; simp)
   have hds : ds.length <= 10 := by rw [e1] at hn; simp at hn; omega
   unfold lmB
   walk_at "go"
   rw [show ∀ s2, gIx (.da st.d) (.int 0) s2 = .ok (.int st.a) s2 from fun _ => it0]
   walk_at "go"
   rw [show ∀ s2, gIx (.da (stD p h)) (.int 0) s2 = .ok (.int p) s2 from fun _ => it0]
   walk_at "go"
   rw [eq_pl]
   by_cases ea : st.a = p
   ·rw [decide_eq_true ea]
    walk_at "go"
    rw [show ∀ s2, gIx (.da st.d) (.int 2) s2 = .ok (.tup (st.ts.map Ti.d)) s2 from fun _ => it2]
    walk_at "go"
    rw [show ∀ s2, gIx (.da (stD p h)) (.int 1) s2 = .ok (.da (hdD h)) s2 from fun _ => it1]
    walk_at "go"
    have n3 := hst.n3
    have q6 : st.ts.length < 6 := by omega
    have q := lawdo_ok (h := h) hl st.ts 6 s' hst.ti hst.n3 q6
    generalize F_law_doings 6 = FD at q ⊢
    refine R.W_mono q ?_
    rintro _ s2 ⟨rfl, x2⟩
    walk_at "go"
    rw [show ∀ W s2, gIter (lsD W) s2 = .ok ((W.map wD).map D.da, none) s2 from fun _ _ => rfl]
    walk_at "go"
    refine loop_inv (LnJ st p h s (mv ds p h) (.da m.d)) ?_ ?_ _ _ _ ⟨[], _, v, rfl, rfl, rfl, hm.ext x2⟩
    ·rintro d r ρ s3 ⟨W, V, u, f1, f2, rfl, hm3⟩
     cases V with
     | nil => cases f2
     | cons w V =>
      rw [List.map_cons, List.map_cons, List.cons.injEq] at f2
      obtain ⟨rfl, rfl⟩ := f2
      refine ⟨[some (.da m.d), some (.da (stD p h)), some (.ref s.length), some (.da st.d), some (.da (wD w))], rfl, ?_⟩
      have hw := way_few (h := h) hst.ti w (by rw [f1]; simp)
      have hf := fl_ok (w := w) hst.ti hw.2
      unfold lnB
      walk_at "go"
      rw [show ∀ s2, gIx (.da (stD p h)) (.int 1) s2 = .ok (.da (hdD h)) s2 from fun _ => it1]
      walk_at "go"
      have q := done_ok (s := s3) (st := st) (h := h) (w := w) (b := h.length) hw.1.symm (fun t ht q hq => (hst.ti t ht).sp q hq) (fun t ht => (hst.ti t ht).l9) hst.n3 hl hf
      generalize F_law_done = FDn at q ⊢
      refine q.mono ?_
      rintro _ s5 ⟨rfl, x5⟩
      walk_at "go"
      obtain ⟨s6, e6, m6⟩ := (hm3.ext x5).put (isT_key hst hf hl ho) (in_len hst f1 (by omega))
      rw [show (D.tup [.tuple (srtD (prs (fl st.ts w))), .tuple [.int st.b, hdD (sb st.ts w h)]]) = .da (keyOf st h w) from rfl, e6]
      walk_at "go"
      exact ⟨W ++ [w], V, _, by rw [f1]; simp, rfl, rfl, by rw [List.foldl_append]; exact m6⟩
    ·rintro ρ s3 ⟨W, V, u, f1, f2, rfl, hm3⟩
     cases V with
     | cons w V => cases f2
     | nil =>
      rw [List.append_nil] at f1
      subst f1
      have := mvStep_len (h := h) hst (mv ds p h)
      refine ⟨ds ++ [st], rs, _, _, by rw [e1]; simp, rfl, rfl, ?_, ?_⟩
      ·rw [mv_app, if_pos ea, List.length_append]
       show (mvStep h _ st).length <= 1 + 27 * (ds.length + 1)
       omega
      ·rw [mv_app, if_pos ea]; exact hm3
   ·rw [decide_eq_false ea]
    walk_at "go"
    refine ⟨ds ++ [st], rs, _, _, by rw [e1]; simp, rfl, rfl, ?_, ?_⟩
    ·rw [mv_app, if_neg ea, List.length_append]; omega
    ·rw [mv_app, if_neg ea]; exact hm
 ·rintro ρ s' ⟨ds, rs, u, v, e1, e2, rfl, e4, hm⟩
  cases rs with
  | cons q rs => cases e2
  | nil =>
   rw [List.append_nil] at e1
   subst e1
   obtain ⟨kvs, g, c, rfl⟩ := hm.ex
   walk_at "go"
   rw [list2_da get_app, c.e]
   walk_at "go"
   exact ⟨trivial, Ext.add _ _⟩
end Ln
namespace Ln
open PySem L2 PF
structure McOk (m : Mc) : Prop where
 n : 0 < m.n /\ m.n <= 3
 ps : ∃ xs : List Str, m.ps = xs.map PyData.str /\ xs.length <= 9 /\ ∀ x ∈ xs, okPort x = true
 b : m.b <= 1000
 p : plOk m.p = true
 h : m.h.length = m.b
 ho : hdOk m.h
 st : ∀ st ∈ m.sts, StOk m.b st
 n10 : m.sts.length <= 10
theorem nice_ps {ps : List PyData} (h : ∃ xs : List Str, ps = xs.map PyData.str /\ xs.length <= 9 /\ ∀ x ∈ xs, okPort x = true) : Nice 189 1 (.tuple ps) := by
 obtain ⟨xs, rfl, hl, ho⟩ := h
 exact ((nices_strs xs ho).mono (B' := 189) (by omega) (Nat.le_refl _)).tup
theorem nice_step {b : Nat} (hb : b <= 1000) {st : Stp} (h : StOk b st) : Nice 1372 5 st.d := by
 have h1 := (nice_pl h.a).mono (D' := 4) (Nat.le_refl _) (by decide)
 have h2 := (nice_ps h.ps).mono (D' := 4) (Nat.le_refl _) (by decide)
 have h3 := nices_ti hb h.ti h.n3
 have h4 := (nice_pl h.b).mono (D' := 4) (Nat.le_refl _) (by decide)
 exact ((Nices.cons h1 (Nices.cons h2 (Nices.cons h3 (Nices.cons h4 Nices.nil)))).tup).mono (by decide) (by decide)
theorem nice_mc {m : Mc} (h : McOk m) : Nice 15000 7 m.d := by
 have h1 := (nice_int (i := m.n) (by have := h.n; omega)).mono (D' := 6) (Nat.le_refl _) (by decide)
 have h2 := (nice_ps h.ps).mono (D' := 6) (Nat.le_refl _) (by decide)
 have h3 := (nice_int (i := (m.b : Int)) (by have := h.b; rw [Int.natAbs_natCast]; omega)).mono (D' := 6) (Nat.le_refl _) (by decide)
 have h4 := (nice_st h.p (by rw [h.h]; exact h.b) h.ho).mono (D' := 6) (Nat.le_refl _) (by decide)
 have h5 := nices_all (B := 1372) (D := 5) (m.sts.map Stp.d) fun d hd => by
  obtain ⟨st, hst, rfl⟩ := List.mem_map.mp hd
  exact nice_step h.b (h.st st hst)
 rw [List.length_map] at h5
 have n10 := h.n10
 have h6 := (h5.mono (B' := 13730) (by omega) (Nat.le_refl _)).tup
 exact ((Nices.cons h1 (Nices.cons h2 (Nices.cons h3 (Nices.cons h4 (Nices.cons h6 Nices.nil))))).tup).mono (by decide) (by decide)
structure SdOk (m : Mc) (p : Int) (h : Hd) : Prop where
 p : plOk p = true
 l : h.length = m.b
 o : hdOk h
structure KyOk (m : Mc) (k : PyData) : Prop where
 ex : ∃ mo p h, k = .tuple [mo, stD p h] /\ SdOk m p h /\ Nice 1700 3 k
theorem mv_ok {m : Mc} {p : Int} {h : Hd} (hm : McOk m) (hs : SdOk m p h) : (∀ k ∈ mv m.sts p h, KyOk m k) /\ (mv m.sts p h).length <= 271 /\ 0 < (mv m.sts p h).length := by
 have hl : h.length <= 1000 := by rw [hs.l]; exact hm.b
 have key : ∀ st ∈ m.sts, ∀ w ∈ prod (st.ts.map (tf h)), KyOk m (keyOf st h w) := fun st hst w hw => by
  have so := hm.st st hst
  have hw := way_few so.ti w hw
  have hf := fl_ok (w := w) so.ti hw.2
  exact ⟨_, _, _, rfl, ⟨so.b, by rw [sb_len, hs.l], sb_ok hf hs.o⟩, nice_key so hf hl hs.o⟩
 have inner : ∀ (st : Stp), st ∈ m.sts -> ∀ (W : List (List Int)) (ks : List PyData), (∀ w ∈ W, w ∈ prod (st.ts.map (tf h))) -> (∀ k ∈ ks, KyOk m k) -> 0 < ks.length -> (∀ k ∈ W.foldl (fun ks w => addK ks (keyOf st h w)) ks, KyOk m k) /\ 0 < (W.foldl (fun ks w => addK ks (keyOf st h w)) ks).length := fun st hst W => by
  induction W with
  | nil => intro ks _ hk h0; exact ⟨hk, h0⟩
  | cons w r ih =>
   intro ks hw hk h0
   rw [List.foldl_cons]
   refine ih _ (fun v hv => hw v (List.mem_cons_of_mem _ hv)) (fun k hk' => ?_) ?_
   ·unfold addK at hk'
    split at hk'
    ·exact hk k hk'
    ·rcases List.mem_append.mp hk' with z | z
     ·exact hk k z
     ·rw [List.mem_singleton.mp z]; exact key st hst w (hw w List.mem_cons_self)
   ·unfold addK
    split
    ·exact h0
    ·simp
 have outer : ∀ (l : List Stp), (∀ st ∈ l, st ∈ m.sts) -> ∀ ks : List PyData, (∀ k ∈ ks, KyOk m k) -> 0 < ks.length -> (∀ k ∈ l.foldl (mvStep h) ks, KyOk m k) /\ (l.foldl (mvStep h) ks).length <= ks.length + 27 * l.length /\ 0 < (l.foldl (mvStep h) ks).length := fun l => by
  induction l with
  | nil => intro _ ks hk h0; exact ⟨hk, Nat.le_refl _, h0⟩
  | cons st r ih =>
   intro hl' ks hk h0
   have hst := hl' st List.mem_cons_self
   obtain ⟨i1, i2⟩ := inner st hst _ ks (fun _ z => z) hk h0
   obtain ⟨o1, o2, o3⟩ := ih (fun x hx => hl' x (List.mem_cons_of_mem _ hx)) (mvStep h ks st) i1 i2
   have := mvStep_len (h := h) (hm.st st hst) ks
   (rw [List.foldl_cons, List.length_cons])
   exact ⟨o1, by omega, o3⟩
 obtain ⟨o1, o2, o3⟩ := outer (m.sts.filter fun st => decide (st.a = p)) (fun st hst => (List.mem_filter.mp hst).1) [.tuple [.tuple [], stD p h]] (fun k hk => by
  rw [List.mem_singleton.mp hk]; exact ⟨_, _, _, rfl, hs, nice_k0 hs.p hl hs.o⟩) Nat.one_pos
 refine ⟨o1, ?_, o3⟩
 have := List.length_filter_le (fun st : Stp => decide (st.a = p)) m.sts
 have := hm.n10
 unfold mv
 simp only [List.length_cons, List.length_nil] at o2
 omega
theorem nice_mv {m : Mc} {p : Int} {h : Hd} (hm : McOk m) (hs : SdOk m p h) : Nice 470000 4 (.list (mv m.sts p h)) := by
 obtain ⟨o1, o2, _⟩ := mv_ok hm hs
 have h1 := nices_all (B := 1700) (D := 3) (mv m.sts p h) fun d hd => by obtain ⟨_, _, _, _, _, n⟩ := (o1 d hd).ex; exact n
 exact (h1.mono (B' := 470000) (by omega) (Nat.le_refl _)).lst
theorem isi_ref {s : S} {n : Nat} {ds : List D} (h : s[n]? = some (.lst ds)) : gIsi [.ref n, .ty "list"] s = .ok (.bl true) s := by
 unfold gIsi
 simp only []
 rw [if_pos (by decide)]
 simp only [h]
 rfl
theorem repr_ref {s : S} {n : Nat} {xs : List PyData} (h : s[n]? = some (.lst (xs.map D.da))) (ho : okS (.list xs) = true) : gRepr [.ref n] s = .ok (.str (PyData.list xs).shown) s := by
 show (match toP s (.ref n) with | some a => if okS a = true then R.ok (D.str a.shown) s else .bad | none => .bad) = _
 rw [toP_ref h]
 exact if_pos ho
structure RiJ (m : Mc) (p : Int) (h : Hd) (s : S) (r : List D) (ρ : En) (s' : S) : Prop where
 ex : ∃ u v, ρ = [some (.da m.d), some (.da (stD p h)), some (.str (PyData.list (mv m.sts p h)).shown), some (.str (PyData.tuple [m.d, stD p h]).shown), u, v] /\ Ext s s'
theorem right_ok {s : S} {m : Mc} {p : Int} {h : Hd} (hm : McOk m) (hs : SdOk m p h) : (F_law_right [.da m.d, .da (stD p h)] s).W fun d s' => d = .bl true /\ Ext s s' := by
 have hl : h.length <= 1000 := by rw [hs.l]; exact hm.b
 have hst : ∀ st ∈ m.sts, StOk h.length st := fun st z => by rw [hs.l]; exact hm.st st z
 have ok1 := (nice_mv hm hs).okS (by decide) (by decide)
 have ok2 : okS (.tuple [m.d, stD p h]) = true := by
  have h1 := nice_mc hm
  have h2 := (nice_st hs.p hl hs.o).mono (D' := 7) (Nat.le_refl _) (by decide)
  exact ((Nices.cons h1 (Nices.cons h2 Nices.nil)).tup).okS (by decide) (by decide)
 have r2 : ∀ s2, gRepr [.tup [m.d, stD p h]] s2 = .ok (.str (PyData.tuple [m.d, stD p h]).shown) s2 := fun s2 => repr_da ok2
 rw [e_law_right]; unfold B_law_right
 walk_at "go"
 refine R.W_mono (law_moves_ok hst hm.n10 hs.p hl hs.o) ?_
 rintro _ s1 ⟨rfl, x1⟩
 walk_at "go"
 rw [show ∀ s2, gRepr [.lst (mv m.sts p h)] s2 = .ok (.str (PyData.list (mv m.sts p h)).shown) s2 from fun _ => repr_da ok1]
 walk_at "go"
 rw [r2]
 walk_at "go"
 rw [rng_ok (by decide) (by decide)]
 walk_at "go"
 refine loop_inv (RiJ m p h s) ?_ ?_ _ _ _ ⟨none, none, rfl, x1⟩
 ·rintro d r ρ s' ⟨u, v, rfl, x⟩
  refine ⟨[some (.da m.d), some (.da (stD p h)), some (.str (PyData.list (mv m.sts p h)).shown), some (.str (PyData.tuple [m.d, stD p h]).shown), some d, v], rfl, ?_⟩
  walk_at "go"
  refine R.W_mono (moves_from_ok hst hm.n10 hs.p hl hs.o) ?_
  rintro _ s4 ⟨s3, x3, rfl, rfl⟩
  walk_at "go"
  rw [isi_ref get_app]
  walk_at "go"
  rw [repr_ref get_app ok1]
  walk_at "go"
  rw [gNe_s, decide_eq_true rfl]
  walk_at "go"
  rw [r2]
  walk_at "go"
  rw [gNe_s, decide_eq_true rfl]
  walk_at "go"
  rw [e_mt1 get_app]
  walk_at "go"
  rw [reverse_ok get_app]
  walk_at "go"
  rw [set_app, e_mt1 get_app]
  walk_at "go"
  have hlen := (mv_ok hm hs).2.1
  rw [append_ok get_app (by simp; omega)]
  walk_at "go"
  exact ⟨_, _, rfl, by rw [set_app]; exact (x.trans x3).trans (Ext.add _ _)⟩
 ·rintro ρ s' ⟨u, v, rfl, x⟩
  walk_at "go"
  exact ⟨trivial, x⟩
end Ln
namespace Ln
open PySem L2 PF
def nm17 : List Str := ["a", "ab", "abc", "net", "end", "within", "to", "table", "step", "box", "port", "next", "b", "zzzzzzzz", "both", "place", "ba"]
theorem nm17_ok : ∀ x ∈ nm17, okPort x = true := by decide +kernel
theorem rng_range (n : Nat) : rngD 0 n = (List.range n).map fun i : Nat => D.int (i : Int) := by
 apply List.ext_getElem?
 intro i
 by_cases hi : i < n
 ·rw [rng_get _ _ _ hi, List.getElem?_map, List.getElem?_range hi]; simp
 ·rw [List.getElem?_eq_none (by rw [rng_len]; omega), List.getElem?_eq_none (by simp; omega)]
theorem names_ok {s : S} {n c k : Nat} (h : Fd s n c) (hk : k <= 9) (hc : c + 2 < 2 ^ 40) : DW (F_law_names [.ref n, .int (k : Int)] s) fun d s' => ∃ ps : List Str, d = .lst (ps.map PyData.str) /\ ps.length = k /\ (∀ x ∈ ps, okPort x = true) /\ Fd s' n (c + 2) /\ Same n s s' := by
 refine ⟨?_⟩
 rw [e_law_names]; unfold B_law_names
 walk_at "go"
 rw [gAdd_lst (by decide)]
 walk_at "go"
 generalize hL : D.lst ([PyData.str "a", PyData.str "ab", PyData.str "abc", PyData.str "net", PyData.str "end", PyData.str "within", PyData.str "to", PyData.str "table", PyData.str "step", PyData.str "box", PyData.str "port", PyData.str "next", PyData.str "b", PyData.str "zzzzzzzz", PyData.str "both", PyData.str "place", PyData.str "ba"]) = L
 have hL : L = .lst (nm17.map PyData.str) := hL.symm
 subst hL
 refine R.W_mono (draw_ok h (by decide) (by decide) (by omega)) ?_
 rintro _ s1 ⟨f, rfl, f0, f1, fd1, sm1⟩
 walk_at "go"
 refine R.W_mono (draw_ok fd1 (by decide) (by decide) (by omega)) fun dd s2 q => ?_
 obtain ⟨g, e, g0, g1, fd2, sm2⟩ := q
 rw [e]; clear e
 walk_at "go"
 rw [rng_ok (by omega) (by omega), show ((k : Int)).toNat = k from Int.toNat_natCast _]
 walk_at "go"
 rw [e_lc1 (ρ0 := [none, some (.lst (nm17.map PyData.str)), some (.int f), some (.int (1 + g))]) (by rw [rng_len]; omega) rfl]
 rw [rng_range]
 have idx : ∀ i : Nat, ∃ q : Nat, (f + (1 + g) * (i : Int)) % 17 = (q : Int) /\ q < 17 := fun i => by
  have h0 := Int.emod_nonneg (f + (1 + g) * (i : Int)) (show (17 : Int) ≠ 0 by decide)
  have h1 := Int.emod_lt_of_pos (f + (1 + g) * (i : Int)) (show (0 : Int) < 17 by decide)
  exact ⟨((f + (1 + g) * (i : Int)) % 17).toNat, by omega, by omega⟩
 rw [comp_da (fun i : Nat => D.int (i : Int)) (fun _ => true) (fun i => .str (nm17.getD ((f + (1 + g) * (i : Int)) % 17).toNat "a")) (List.range k) fun i hi => ⟨[some (.int (i : Int)), some (.lst (nm17.map PyData.str)), some (.int f), some (.int (1 + g))], rfl, rfl, fun _ => by
  walk_at "ev"
  rw [gMul_int (.inl (by omega))]
  walk_at "ev"
  rw [gMod_int (by decide)]
  walk_at "ev"
  obtain ⟨q, hq, hq2⟩ := idx i
  rw [hq, Int.toNat_natCast]
  have hl : q < nm17.length := hq2
  rw [gIx_lst (p := .str (nm17.getD q "a")) (by rw [List.getElem?_map, List.getElem?_eq_getElem hl, List.getD_eq_getElem?_getD, List.getElem?_eq_getElem hl]; rfl)]⟩]
 rw [show (List.range k).filter (fun _ => true) = List.range k by simp]
 walk_at "go"
 refine ⟨(List.range k).map fun i : Nat => nm17.getD ((f + (1 + g) * (i : Int)) % 17).toNat "a", by rw [List.map_map]; rfl, by simp, fun x hx => ?_, fd2, sm1.trans sm2⟩
 obtain ⟨i, _, rfl⟩ := List.mem_map.mp hx
 obtain ⟨q, hq, hq2⟩ := idx i
 rw [hq, Int.toNat_natCast]
 have hl : q < nm17.length := hq2
 rw [List.getD_eq_getElem?_getD, List.getElem?_eq_getElem hl]
 exact nm17_ok _ (List.getElem_mem hl)
structure ToJ (s : S) (n c T : Nat) (r acc : List D) (s' : S) : Prop where
 ex : ∃ (l : List Int) (k c' : Nat), acc = l.map (fun i => D.int i) /\ r = rngD k (T - k) /\ k <= T /\ l.length <= k /\ (∀ x ∈ l, 0 <= x /\ x < (T : Int)) /\ Fd s' n c' /\ c' + (T - k) <= c + T /\ Same n s s'
theorem eq0 (i j : Int) (s : S) : gEq (.int i) (.int j) s = .ok (.bl (decide (i = j))) s := eq_pl i j s
theorem told_ok {s : S} {n c T : Nat} (h : Fd s n c) (h0 : 0 < T) (hT : T <= 3) (hc : c + 4 < 2 ^ 40) : DW (F_law_told [.ref n, .int (T : Int)] s) fun d s' => ∃ l : List Int, d = .tup (l.map PyData.int) /\ l.length <= 3 /\ (∀ x ∈ l, 0 <= x /\ x < 3) /\ Fd s' n (c + 4) /\ Same n s s' := by
 refine ⟨?_⟩
 rw [e_law_told]; unfold B_law_told
 walk_at "go"
 rw [rng_ok (by omega) (by omega), show ((T : Int)).toNat = T from Int.toNat_natCast _]
 walk_at "go"
 rw [e_lc1 (ρ0 := [none, some (.ref n)]) (by rw [rng_len]; omega) rfl, R.W_bindk]
 refine R.W_mono (comp_inv (Q := fun xs s' => ∃ (l : List Int), xs = l.map (fun i => D.int i) /\ l.length <= T /\ (∀ x ∈ l, 0 <= x /\ x < (T : Int)) /\ Fd s' n (c + T) /\ Same n s s') (ToJ s n c T) ?_ ?_ _ [] s ⟨[], 0, c, rfl, rfl, Nat.zero_le _, Nat.le_refl _, (fun x hx => by cases hx), h, by omega, Same.refl _ _⟩) ?_
 ·rintro d r acc s' ⟨l, k, c', ha, hr, hk, hl, hx, fd, hcc, sm⟩
  by_cases hkT : k < T
  ·rw [show T - k = (T - (k + 1)) + 1 by omega, rngD, List.cons.injEq] at hr
   obtain ⟨rfl, rfl⟩ := hr
   refine ⟨[some (.int (k : Int)), some (.ref n)], rfl, ?_⟩
   walk_at "go"
   refine R.W_mono (draw_ok fd (by decide) (by decide) (by omega)) ?_
   rintro _ s1 ⟨i, rfl, i0, i1, fd1, sm1⟩
   walk_at "go"
   rw [eq0]
   by_cases e : i = 0
   ·rw [decide_eq_true e]
    walk_at "go"
    refine ⟨l ++ [(k : Int)], k + 1, c' + 1, by rw [ha]; simp, by rw [Int.natCast_succ], hkT, by simp; omega, fun x hx' => ?_, fd1, by omega, sm.trans sm1⟩
    rcases List.mem_append.mp hx' with z | z
    ·exact hx x z
    ·rw [List.mem_singleton.mp z]; omega
   ·rw [decide_eq_false e]
    walk_at "go"
    exact ⟨l, k + 1, c' + 1, ha, by rw [Int.natCast_succ], hkT, by omega, hx, fd1, by omega, sm.trans sm1⟩
  ·rw [show T - k = 0 by omega] at hr
   cases hr
 ·rintro acc s' ⟨l, k, c', ha, hr, hk, hl, hx, fd, hcc, sm⟩
  exact ⟨l, ha, by omega, hx, fd.le (by omega), sm⟩
 ·rintro xs s1 ⟨l, e, hl, hx, fd, sm⟩
  rw [List.nil_append] at e
  subst e
  walk_at "go"
  rw [show l.map (fun i => D.int i) = (l.map PyData.int).map D.da by rw [List.map_map]; rfl]
  walk_at "go"
  rw [gNe_da (Nice.okD (B := l.length) (D := 1) ((nices_ints (B := 0) l fun x hx' => nice_few ⟨(hx x hx').1, by have := (hx x hx').2; omega⟩).lst) (by decide)) rfl, eqv_lnil]
  cases l with
  | nil =>
   walk_at "go"
   rw [show (!(([] : List Int).map PyData.int).isEmpty) = false from rfl]
   walk_at "go"
   refine R.W_mono (draw_ok fd (by omega) (by omega) (by omega)) ?_
   rintro _ s2 ⟨i, rfl, i0, i1, fd2, sm2⟩
   walk_at "go"
   exact ⟨[i], rfl, by simp, fun x hx => by rw [List.mem_singleton.mp hx]; omega, fd2.le (by omega), sm.trans sm2⟩
  | cons y ys =>
   rw [show (!((y :: ys).map PyData.int).isEmpty) = true from rfl]
   walk_at "go"
   exact ⟨y :: ys, rfl, by omega, fun x hx' => ⟨(hx x hx').1, by have := (hx x hx').2; omega⟩, fd.le (by omega), sm⟩
end Ln
namespace Ln
open PySem L2 PF
def gpD (l : List Sp) : O := .lst ((l.map Sp.d).map D.da)
structure Gr (s s' : S) (n g : Nat) (G : Nat -> List Sp) (N b : Nat) : Prop where
 at' : ∀ i : Nat, i < 3 -> s'[g + i]? = some (gpD (G i))
 all : s'[g + 3]? = some (.lst [.ref g, .ref (g + 1), .ref (g + 2)])
 big : s.length <= g /\ n < s.length
 few : ∀ i : Nat, (G i).length <= N
 inb : ∀ i : Nat, ∀ p ∈ G i, inB b p = true /\ okPt p = true
 sm : Same n s s'
theorem Gr.same {s s' s2 : S} {n g N b : Nat} {G : Nat -> List Sp} (h : Gr s s' n g G N b) (x : Same n s' s2) : Gr s s2 n g G N b := by
 have hl := (List.getElem?_eq_some_iff.mp h.all).1
 obtain ⟨b1, b2⟩ := h.big
 refine ⟨fun i hi => ?_, ?_, h.big, h.few, h.inb, h.sm.trans x⟩
 ·rw [x.get _ (by omega) (by omega)]; exact h.at' i hi
 ·rw [x.get _ (by omega) (by omega)]; exact h.all
theorem Gr.mono {s s' : S} {n g N N' b : Nat} {G : Nat -> List Sp} (h : Gr s s' n g G N b) (hN : N <= N') : Gr s s' n g G N' b := ⟨h.at', h.all, h.big, fun i => Nat.le_trans (h.few i) hN, h.inb, h.sm⟩
theorem Gr.ix {s s' : S} {n g N b : Nat} {G : Nat -> List Sp} (h : Gr s s' n g G N b) {i : Nat} (hi : i < 3) : gIx (.ref (g + 3)) (.int (i : Int)) s' = .ok (.ref (g + i)) s' := by
 refine gIx_ref h.all ?_
 have : i = 0 \/ i = 1 \/ i = 2 := by omega
 rcases this with rfl | rfl | rfl <;> rfl
def addG (G : Nat -> List Sp) (i : Nat) (p : Sp) : Nat -> List Sp := fun j => if j = i then G j ++ [p] else G j
theorem Gr.put {s s' : S} {n g N b : Nat} {G : Nat -> List Sp} (h : Gr s s' n g G N b) {i : Nat} (hi : i < 3) (hN : N <= 1000) {p : Sp} (hp : inB b p = true /\ okPt p = true) :
  ∃ s2, gAppend (.ref (g + i)) [.da p.d] s' = .ok .non s2 /\ Gr s s2 n g (addG G i p) (N + 1) b /\ ∀ k, k < s.length -> s2[k]? = s'[k]? := by
 have hf := h.few i
 obtain ⟨b1, b2⟩ := h.big
 have hl := (List.getElem?_eq_some_iff.mp h.all).1
 refine ⟨_, append_ok (h.at' i hi) (by simp; omega), ⟨fun j hj => ?_, ?_, h.big, fun j => ?_, fun j q hq => ?_, h.sm.own (by omega)⟩, fun k hk => List.getElem?_set_ne (by omega)⟩
 ·by_cases e : j = i
  ·subst e
   rw [List.getElem?_set_self (by omega)]
   unfold addG gpD
   rw [if_pos rfl]; simp
  ·rw [List.getElem?_set_ne (by omega), h.at' j hj]
   unfold addG
   rw [if_neg e]
 ·rw [List.getElem?_set_ne (by omega)]; exact h.all
 ·unfold addG
  have := h.few j
  split
  ·simp; omega
  ·omega
 ·unfold addG at hq
  split at hq
  ·rcases List.mem_append.mp hq with z | z
   ·exact h.inb j q z
   ·rw [List.mem_singleton.mp z]; exact hp
  ·exact h.inb j q hq
theorem put_ok {s s' : S} {n g N b c : Nat} {G : Nat -> List Sp} {ρ : En} {fa : FA} {p : Sp} {Q : Fl -> S -> Prop} (h : Gr s s' n g G N b) (fd : Fd s' n c) (hc : c + 1 < 2 ^ 40) (hN : N <= 1000) (hp : inB b p = true /\ okPt p = true) (e6 : ∀ s2, fVar 6 ρ s2 = .ok (.ref (g + 3)) s2) (e0 : ∀ s2, fVar 0 ρ s2 = .ok (.ref n) s2)
  (ea : ∀ s2, fa ρ s2 = .ok [.da p.d] s2) (k : ∀ (G' : Nat -> List Sp) (s2 : S), Gr s s2 n g G' (N + 1) b -> Fd s2 n (c + 1) -> Q (.nx ρ) s2) :
  ((fDrop (fMt gAppend (fOp gIx (fVar 6) (fCall 2 F_law_draw (fCons (fVar 0) (fCons (fC (.da (.int 3))) fNil)))) fa)) ρ s').W Q := by
 rw [e_drop, e_mt, e_op, e6]
 walk_at "go"
 rw [e0]
 walk_at "go"
 refine R.W_mono (draw_ok fd (by decide) (by decide) (by omega)) fun d s1 q => ?_
 obtain ⟨i, e, i0, i1, fd1, sm1⟩ := q
 rw [e]; clear e
 obtain ⟨j, rfl⟩ : ∃ j : Nat, i = (j : Int) := ⟨i.toNat, by omega⟩
 have h1 := h.same sm1
 have hj : j < 3 := by omega
 walk_at "go"
 rw [h1.ix hj]
 walk_at "go"
 rw [e_mt1 (h1.at' j hj), ea]
 walk_at "go"
 obtain ⟨s2, e2, g2, kp⟩ := h1.put hj hN hp
 rw [e2]
 walk_at "go"
 refine k _ s2 g2 ?_
 obtain ⟨xs, a, b', ex, r⟩ := fd1.ex
 obtain ⟨b1, b2⟩ := h.big
 exact ⟨xs, a, b', by rw [kp _ b2]; exact ex, r⟩
theorem lt_spots (p q : Sp) : (ltP p.d q.d).isSome = true := by
 have e1 : (Str.ofString "box" = Str.ofString "port") = False := by decide
 cases p <;> cases q <;> simp only [Sp.d, ltP, ltPs] <;> repeat (first | rfl | split)
theorem pl_sp (p : Sp) : plD p.d = true := by cases p <;> rfl
theorem cmpb_spots (l : List Sp) : cmpb (l.map Sp.d) = true := by
 refine List.all_eq_true.mpr fun d hd => ?_
 obtain ⟨p, _, rfl⟩ := List.mem_map.mp hd
 rw [Bool.and_eq_true]
 refine ⟨pl_sp p, List.all_eq_true.mpr fun e he => ?_⟩
 obtain ⟨q, _, rfl⟩ := List.mem_map.mp he
 exact lt_spots p q
theorem srt_spots (l : List Sp) : ∃ l' : List Sp, srtD (l.map Sp.d) = l'.map Sp.d /\ l'.length = l.length /\ ∀ p ∈ l', ∃ q ∈ l, p.d = q.d := by
 have hp := srtD_perm (l.map Sp.d)
 have : ∀ xs : List PyData, (∀ x ∈ xs, x ∈ l.map Sp.d) -> ∃ l' : List Sp, xs = l'.map Sp.d /\ ∀ p ∈ l', ∃ q ∈ l, p.d = q.d := fun xs => by
  induction xs with
  | nil => intro _; exact ⟨[], rfl, fun p hp => by cases hp⟩
  | cons x r ih =>
   intro h
   obtain ⟨l', e, k⟩ := ih fun y hy => h y (List.mem_cons_of_mem _ hy)
   obtain ⟨q, hq, rfl⟩ := List.mem_map.mp (h x List.mem_cons_self)
   exact ⟨q :: l', by rw [e]; rfl, fun p hp' => by
    rcases List.mem_cons.mp hp' with z | z
    ·exact ⟨q, hq, by rw [z]⟩
    ·exact k p z⟩
 obtain ⟨l', e, k⟩ := this _ fun x hx => hp.mem_iff.mp hx
 refine ⟨l', e, ?_, k⟩
 have := hp.length_eq
 rw [e, List.length_map, List.length_map] at this
 exact this
theorem sp_inj {p q : Sp} {b : Nat} (e : p.d = q.d) (h : inB b q = true /\ okPt q = true) : inB b p = true /\ okPt p = true := by
 have w1 : Str.ofString "port" ≠ Str.ofString "box" := by decide +kernel
 have w2 : Str.ofString "port" ≠ Str.ofString "next" := by decide +kernel
 have w3 : Str.ofString "box" ≠ Str.ofString "next" := by decide +kernel
 rw [Sp.eq, Sp.eq] at e
 injection e with e
 injection e with e1 e2
 injection e2 with e2 _
 injection e1 with e1
 cases p <;> cases q
 all_goals first
  | exact absurd e1 w1
  | exact absurd e1 w2
  | exact absurd e1 w3
  | exact absurd e1.symm w1
  | exact absurd e1.symm w2
  | exact absurd e1.symm w3
  | skip
 ·injection e2 with e2; subst e2; exact h
 ·injection e2 with e2; cases Int.ofNat.inj e2; exact h
 ·injection e2 with e2; cases Int.ofNat.inj e2; exact h
end Ln
namespace Ln
open PySem L2 PF
theorem lt_strs (a b : Str) : (ltP (.str a) (.str b)).isSome = true := by simp only [ltP]; rfl
theorem cmpb_strs (l : List Str) : cmpb (l.map PyData.str) = true := by
 refine List.all_eq_true.mpr fun d hd => ?_
 obtain ⟨p, _, rfl⟩ := List.mem_map.mp hd
 rw [Bool.and_eq_true]
 refine ⟨rfl, List.all_eq_true.mpr fun e he => ?_⟩
 obtain ⟨q, _, rfl⟩ := List.mem_map.mp he
 exact lt_strs p q
theorem srt_strs (l : List Str) : ∃ l' : List Str, srtD (l.map PyData.str) = l'.map PyData.str /\ l'.length = l.length /\ ∀ p ∈ l', p ∈ l := by
 have hp := srtD_perm (l.map PyData.str)
 have : ∀ xs : List PyData, (∀ x ∈ xs, x ∈ l.map PyData.str) -> ∃ l' : List Str, xs = l'.map PyData.str /\ ∀ p ∈ l', p ∈ l := fun xs => by
  induction xs with
  | nil => intro _; exact ⟨[], rfl, fun p hp => by cases hp⟩
  | cons x r ih =>
   intro h
   obtain ⟨l', e, k⟩ := ih fun y hy => h y (List.mem_cons_of_mem _ hy)
   obtain ⟨q, hq, rfl⟩ := List.mem_map.mp (h x List.mem_cons_self)
   exact ⟨q :: l', by rw [e]; rfl, fun p hp' => by
    rcases List.mem_cons.mp hp' with z | z
    ·rw [z]; exact hq
    ·exact k p z⟩
 obtain ⟨l', e, k⟩ := this _ fun x hx => hp.mem_iff.mp hx
 refine ⟨l', e, ?_, k⟩
 have := hp.length_eq
 rw [e, List.length_map, List.length_map] at this
 exact this
theorem okD_strs {l : List Str} (h : ∀ x ∈ l, okPort x = true) : (l.map PyData.str).all okD = true := List.all_eq_true.mpr fun d hd => by
 obtain ⟨x, hx, rfl⟩ := List.mem_map.mp hd
 exact (nice_str (h x hx)).okD (by decide)
theorem sort_strs {l : List Str} {s : S} (h : ∀ x ∈ l, okPort x = true) (hl : l.length <= 9) : ∃ l' : List Str, gSorted false [.lst (l.map PyData.str)] s = .ok (.lst (l'.map PyData.str)) s /\ l'.length = l.length /\ ∀ x ∈ l', okPort x = true := by
 obtain ⟨l', e1, e2, e3⟩ := srt_strs l
 refine ⟨l', ?_, e2, fun x hx => h x (e3 x hx)⟩
 rw [sorted_lst (by rw [List.length_map]; omega) (cmpb_strs l) (okD_strs h), e1]
structure PaJ (s : S) (n c : Nat) (ps : List Str) (r acc : List D) (s' : S) : Prop where
 ex : ∃ (l rs : List Str) (c' : Nat), acc = l.map (fun x => D.str x) /\ r = (rs.map PyData.str).map D.da /\ l.length + rs.length <= ps.length /\ (∀ x ∈ l, x ∈ ps) /\ (∀ x ∈ rs, x ∈ ps) /\ Fd s' n c' /\ c' + rs.length <= c + ps.length /\ Same n s s'
noncomputable def s1B : FS := (fDrop (fMt gAppend (fOp gIx (fVar 6) (fCall 2 F_law_draw (fCons (fVar 0) (fCons (fC (.da (.int 3))) fNil)))) (fCons (fTup (fCons (fC (.da (.str "port"))) (fCons (fVar 7) fNil))) fNil)))
noncomputable def s2a : FS := (fDrop (fMt gAppend (fOp gIx (fVar 6) (fCall 2 F_law_draw (fCons (fVar 0) (fCons (fC (.da (.int 3))) fNil)))) (fCons (fTup (fCons (fC (.da (.str "box"))) (fCons (fVar 8) fNil))) fNil)))
noncomputable def s2b : FS := (fDrop (fMt gAppend (fOp gIx (fVar 6) (fCall 2 F_law_draw (fCons (fVar 0) (fCons (fC (.da (.int 3))) fNil)))) (fCons (fTup (fCons (fC (.da (.str "next"))) (fCons (fVar 8) fNil))) fNil)))
noncomputable def s2B : FS := (fSeq (fSet 9 (fCall 2 F_law_draw (fCons (fVar 0) (fCons (fC (.da (.int 5))) fNil))))
  (fSeq (fIfS (fOrT (fTest (fOp gLt (fVar 9) (fC (.da (.int 2))))) (fTest (fOp gEq (fVar 9) (fC (.da (.int 4)))))) s2a fNext)
  (fIfS (fTest (fOp gIn (fVar 9) (fTup (fVs (List.map D.da [.int 1, .int 2, .int 4]))))) s2b fNext)))
noncomputable def s3B : FS := (fIfS (fTest (fOp gNe (fVar 11) (fLst false fNil))) (fDrop (fMt gAppend (fVar 10) (fCons (fTup (fCons (fCB gTuple (fCons (fCB (gSorted false) (fCons (fVar 11) fNil)) fNil)) (fCons (fCall 2 F_law_told (fCons (fVar 0) (fCons (fVar 1) fNil))) fNil))) fNil))) fNext)
structure S1J (s : S) (n g c b : Nat) (T ps bx pl : D) (xs : List Str) (r : List D) (ρ : En) (s' : S) : Prop where
 ex : ∃ (rs : List Str) (G : Nat -> List Sp) (k c' : Nat) (u : Option D), r = (rs.map PyData.str).map D.da /\ (∀ x ∈ rs, x ∈ xs) /\ Gr s s' n g G k b /\ k + rs.length <= xs.length /\ Fd s' n c' /\ c' + rs.length <= c + xs.length /\
  ρ = [some (.ref n), some T, some ps, some bx, some pl, some (.lst (xs.map PyData.str)), some (.ref (g + 3)), u, none, none, none, none, none]
structure S2J (s : S) (n g c b : Nat) (T ps bx pl xs : D) (u7 : Option D) (r : List D) (ρ : En) (s' : S) : Prop where
 ex : ∃ (j : Nat) (G : Nat -> List Sp) (k c' : Nat) (u8 u9 : Option D), r = rngD j (b - j) /\ j <= b /\ Gr s s' n g G k b /\ k <= 5 + 2 * j /\ Fd s' n c' /\ c' <= c + 3 * j /\
  ρ = [some (.ref n), some T, some ps, some bx, some pl, some xs, some (.ref (g + 3)), u7, u8, u9, none, none, none]
theorem s2_turn {s s' : S} {n g c b j k : Nat} {T ps bx pl xs : D} {u7 u9 : Option D} {G : Nat -> List Sp} {Q : Fl -> S -> Prop} (gr : Gr s s' n g G k b) (fd : Fd s' n c) (hc : c + 10 < 2 ^ 40) (hk : k <= 900) (hj : j < b)
  (kk : ∀ (G' : Nat -> List Sp) (k' : Nat) (u : Option D) (s2 : S), Gr s s2 n g G' k' b -> k' <= k + 2 -> Fd s2 n (c + 3) -> Q (.nx [some (.ref n), some T, some ps, some bx, some pl, some xs, some (.ref (g + 3)), u7, some (.int (j : Int)), u, none, none, none]) s2) :
  (s2B [some (.ref n), some T, some ps, some bx, some pl, some xs, some (.ref (g + 3)), u7, some (.int (j : Int)), u9, none, none, none] s').W Q := by
 have hbj : inB b (.box j) = true /\ okPt (.box j) = true := ⟨decide_eq_true hj, rfl⟩
 have hnj : inB b (.nxt j) = true /\ okPt (.nxt j) = true := ⟨decide_eq_true hj, rfl⟩
 unfold s2B
 walk_at "go"
 refine R.W_mono (draw_ok fd (by decide) (by decide) (by omega)) fun d s1 q => ?_
 obtain ⟨i, e, i0, i1, fd1, sm1⟩ := q
 rw [e]; clear e
 have gr1 := gr.same sm1
 walk_at "go"
 have half : ∀ (G1 : Nat -> List Sp) (k1 c1 : Nat) (s2 : S), Gr s s2 n g G1 k1 b -> k1 <= k + 1 -> Fd s2 n c1 -> c1 <= c + 2 -> ((fIfS (fTest (fOp gIn (fVar 9) (fTup (fVs (List.map D.da [.int 1, .int 2, .int 4]))))) s2b fNext) [some (.ref n), some T, some ps, some bx, some pl, some xs, some (.ref (g + 3)), u7, some (.int (j : Int)), some (.int i), none, none, none] s2).W Q := fun G1 k1 c1 s2 gr2 hk1 fd2 hc1 => by
  walk_at "go"
  have h5 : i = 0 \/ i = 1 \/ i = 2 \/ i = 3 \/ i = 4 := by omega
  have yes : (s2b [some (.ref n), some T, some ps, some bx, some pl, some xs, some (.ref (g + 3)), u7, some (.int (j : Int)), some (.int i), none, none, none] s2).W Q := by
   unfold s2b
   refine put_ok (p := .nxt j) gr2 fd2 (by omega) (by omega) hnj (fun _ => rfl) (fun _ => rfl) (fun _ => rfl) fun G3 s3 gr3 fd3 => ?_
   exact kk G3 _ _ s3 gr3 (by omega) (fd3.le (by omega))
  have no : Q (.nx [some (.ref n), some T, some ps, some bx, some pl, some xs, some (.ref (g + 3)), u7, some (.int (j : Int)), some (.int i), none, none, none]) s2 := kk G1 _ _ s2 gr2 (by omega) (fd2.le (by omega))
  rcases h5 with rfl | rfl | rfl | rfl | rfl
  ·rw [show gIn (.int 0) (.tup [.int 1, .int 2, .int 4]) s2 = .ok (.bl false) s2 from rfl]
   walk_at "go"
   exact no
  ·rw [show gIn (.int 1) (.tup [.int 1, .int 2, .int 4]) s2 = .ok (.bl true) s2 from rfl]
   walk_at "go"
   exact yes
  ·rw [show gIn (.int 2) (.tup [.int 1, .int 2, .int 4]) s2 = .ok (.bl true) s2 from rfl]
   walk_at "go"
   exact yes
  ·rw [show gIn (.int 3) (.tup [.int 1, .int 2, .int 4]) s2 = .ok (.bl false) s2 from rfl]
   walk_at "go"
   exact no
  ·rw [show gIn (.int 4) (.tup [.int 1, .int 2, .int 4]) s2 = .ok (.bl true) s2 from rfl]
   walk_at "go"
   exact yes
 have doit : (s2a [some (.ref n), some T, some ps, some bx, some pl, some xs, some (.ref (g + 3)), u7, some (.int (j : Int)), some (.int i), none, none, none] s1).W (R.Wk (kSeq (fIfS (fTest (fOp gIn (fVar 9) (fTup (fVs (List.map D.da [.int 1, .int 2, .int 4]))))) s2b fNext)) Q) := by
  unfold s2a
  refine put_ok (p := .box j) gr1 fd1 (by omega) (by omega) hbj (fun _ => rfl) (fun _ => rfl) (fun _ => rfl) fun G3 s3 gr3 fd3 => ?_
  exact half G3 _ _ s3 gr3 (Nat.le_refl _) fd3 (by omega)
 have skip : R.Wk (kSeq (fIfS (fTest (fOp gIn (fVar 9) (fTup (fVs (List.map D.da [.int 1, .int 2, .int 4]))))) s2b fNext)) Q (.nx [some (.ref n), some T, some ps, some bx, some pl, some xs, some (.ref (g + 3)), u7, some (.int (j : Int)), some (.int i), none, none, none]) s1 := half G _ _ s1 gr1 (by omega) fd1 (by omega)
 by_cases h2 : i < 2
 ·rw [decide_eq_true h2]
  walk_at "go"
  exact doit
 ·rw [decide_eq_false h2]
  walk_at "go"
  rw [eq0]
  by_cases h4 : i = 4
  ·rw [decide_eq_true h4]
   walk_at "go"
   exact doit
  ·rw [decide_eq_false h4]
   walk_at "go"
   exact skip
theorem nices_sps {b : Nat} (hb : b <= 1000) {l : List Sp} (h : ∀ p ∈ l, inB b p = true /\ okPt p = true) : Nice (43 * l.length) 2 (.list (l.map Sp.d)) := by
 have := nices_all (B := 42) (D := 1) (l.map Sp.d) fun d hd => by
  obtain ⟨p, hp, rfl⟩ := List.mem_map.mp hd
  exact nice_sp hb (h p hp).1 (h p hp).2
 rw [List.length_map] at this
 exact this.lst
theorem ne_ref {s : S} {n : Nat} {xs : List PyData} (h : s[n]? = some (.lst (xs.map D.da))) (ho : okD (.list xs) = true) : gNe (.ref n) (.lst []) s = .ok (.bl (!xs.isEmpty)) s := by
 show gNeD (.ref n) (.lst []) s = _
 unfold gNeD
 rw [toP_ref h, show toP s (.lst []) = some (.list []) from rfl]
 show (if okD (.list xs) = true /\ okD (.list []) = true then R.ok (D.bl (!PyData.eqv (.list xs) (.list []))) s else .bad) = _
 rw [if_pos ⟨ho, rfl⟩, eqv_lnil]
structure S3J (s : S) (n g t c b T : Nat) (G : Nat -> List Sp) (ps bx pl xs : D) (u7 u8 u9 : Option D) (r : List D) (ρ : En) (s' : S) : Prop where
 ex : ∃ (i : Nat) (ts : List Ti) (c' : Nat) (u : Option D), i <= 3 /\ r = ([.ref g, .ref (g + 1), .ref (g + 2)] : List D).drop i /\ Gr s s' n g G 9 b /\ g + 3 < t /\ s'[t]? = some (.lst ((ts.map Ti.d).map D.da)) /\ ts.length <= i /\ (∀ x ∈ ts, TiN b x) /\ Fd s' n c' /\ c' <= c + 4 * i /\
  ρ = [some (.ref n), some (.int (T : Int)), some ps, some bx, some pl, some xs, some (.ref (g + 3)), u7, u8, u9, some (.ref t), u, none]
theorem s3_turn {s s' : S} {n g t c b T i : Nat} {G : Nat -> List Sp} {ps bx pl xs : D} {u7 u8 u9 : Option D} {ts : List Ti} {Q : Fl -> S -> Prop} (gr : Gr s s' n g G 9 b) (hb : b <= 1000) (hT0 : 0 < T) (hT : T <= 3) (hi : i < 3) (ht : g + 3 < t) (e : s'[t]? = some (.lst ((ts.map Ti.d).map D.da))) (hl : ts.length <= 3) (hts : ∀ x ∈ ts, TiN b x) (fd : Fd s' n c) (hc : c + 10 < 2 ^ 40)
  (k0 : Q (.nx [some (.ref n), some (.int (T : Int)), some ps, some bx, some pl, some xs, some (.ref (g + 3)), u7, u8, u9, some (.ref t), some (.ref (g + i)), none]) s')
  (k1 : ∀ (x : Ti) (s2 : S), TiN b x -> Gr s s2 n g G 9 b -> s2[t]? = some (.lst (((ts ++ [x]).map Ti.d).map D.da)) -> Fd s2 n (c + 4) -> Q (.nx [some (.ref n), some (.int (T : Int)), some ps, some bx, some pl, some xs, some (.ref (g + 3)), u7, u8, u9, some (.ref t), some (.ref (g + i)), none]) s2) :
  (s3B [some (.ref n), some (.int (T : Int)), some ps, some bx, some pl, some xs, some (.ref (g + 3)), u7, u8, u9, some (.ref t), some (.ref (g + i)), none] s').W Q := by
 have hgi := gr.at' i hi
 have hfew := gr.few i
 unfold s3B
 have qt := told_ok fd hT0 hT (by omega)
 generalize F_law_told = FT at qt ⊢
 walk_at "go"
 rw [ne_ref (xs := (G i).map Sp.d) hgi ((nices_sps hb (gr.inb i)).okD (by decide))]
 cases hG : G i with
 | nil =>
  rw [show (!(([] : List Sp).map Sp.d).isEmpty) = false from rfl]
  walk_at "go"
  exact k0
 | cons y ys =>
  rw [show (!((y :: ys).map Sp.d).isEmpty) = true from rfl]
  walk_at "go"
  rw [e_mt1 e]
  walk_at "go"
  have hok : ((G i).map Sp.d).all okD = true := List.all_eq_true.mpr fun d hd => by
   obtain ⟨p, hp, rfl⟩ := List.mem_map.mp hd
   exact (nice_sp hb (gr.inb i p hp).1 (gr.inb i p hp).2).okD (by decide)
  rw [sorted_ref (xs := (G i).map Sp.d) hgi (by rw [List.length_map]; omega) (cmpb_spots _) hok]
  walk_at "go"
  obtain ⟨l', e1, e2, e3⟩ := srt_spots (G i)
  rw [e1]
  refine qt.mono fun d s1 q => ?_
  obtain ⟨l, ed, hl3, hx, fd1, sm1⟩ := q
  rw [ed]; clear ed
  walk_at "go"
  have htl := (List.getElem?_eq_some_iff.mp e).1
  obtain ⟨b1, b2⟩ := gr.big
  have e' : s1[t]? = some (.lst ((ts.map Ti.d).map D.da)) := by rw [sm1.get _ (by omega) htl]; exact e
  rw [append_ok e' (by simp; omega)]
  walk_at "go"
  have htl1 := (List.getElem?_eq_some_iff.mp e').1
  have gr1 := gr.same sm1
  have hn1 : TiN b ⟨l', l⟩ := ⟨⟨fun p hp => by
    obtain ⟨q, hq, ed⟩ := e3 p hp
    exact (sp_inj ed (gr.inb i q hq)).1, hl3⟩, fun p hp => by
    obtain ⟨q, hq, ed⟩ := e3 p hp
    exact (sp_inj ed (gr.inb i q hq)).2, by show l'.length <= 9; omega, hx⟩
  refine k1 ⟨l', l⟩ _ hn1 ⟨fun j hj => ?_, ?_, gr1.big, gr1.few, gr1.inb, gr1.sm.own (by omega)⟩ ?_ (fd1.set (by omega))
  ·rw [List.getElem?_set_ne (by omega)]; exact gr1.at' j hj
  ·rw [List.getElem?_set_ne (by omega)]; exact gr1.all
  ·rw [List.getElem?_set_self htl1]
   simp [Ti.d]
end Ln
namespace Ln
open PySem L2 PF
structure PlOk (pl : List Int) : Prop where
 pos : 0 < pl.length
 few : pl.length <= 3
 ok : ∀ x ∈ pl, plOk x = true
theorem pl_draw {s : S} {n c : Nat} {pl : List Int} {Q : D -> S -> Prop} (h : PlOk pl) (fd : Fd s n c) (hc : c < 2 ^ 40) (kk : ∀ (x : Int) (s2 : S), plOk x = true -> Fd s2 n (c + 1) -> Same n s s2 -> Q (.int x) s2) :
  (F_law_draw [.ref n, .int ((pl.map PyData.int).length : Int)] s).W (R.Wk (kOp2 gIx (.lst (pl.map PyData.int))) Q) := by
 rw [List.length_map]
 have := h.few
 have := h.pos
 refine R.W_mono (draw_ok fd (by omega) (by omega) (by omega)) fun d s1 q => ?_
 obtain ⟨i, e, i0, i1, fd1, sm1⟩ := q
 rw [e]; clear e
 obtain ⟨j, rfl⟩ : ∃ j : Nat, i = (j : Int) := ⟨i.toNat, by omega⟩
 have hj : j < pl.length := by omega
 walk_at "go"
 rw [gIx_lst (p := .int pl[j]) (by rw [List.getElem?_map, List.getElem?_eq_getElem hj]; rfl)]
 walk_at "go"
 exact kk _ _ (h.ok _ (List.getElem_mem hj)) fd1 sm1
theorem step_ok {s : S} {n c T b : Nat} {ps : List Str} {pl : List Int} (h : Fd s n c) (hT0 : 0 < T) (hT : T <= 3) (hb : b <= 2) (hps : ∀ x ∈ ps, okPort x = true) (hp5 : ps.length <= 5) (hpl : PlOk pl) (hc : c + 1000 < 2 ^ 40) :
  DW (F_law_step [.ref n, .int (T : Int), .lst (ps.map PyData.str), .int (b : Int), .lst (pl.map PyData.int)] s) fun d s' => ∃ st : Stp, d = .da st.d /\ StOk b st /\ Fd s' n (c + 100) /\ Same n s s' := by
 refine ⟨?_⟩
 rw [e_law_step]; unfold B_law_step
 walk_at "go"
 rw [e_lc1 (ρ0 := [none, some (.ref n)]) (by simp; omega) rfl, R.W_bindk]
 refine R.W_mono (comp_inv (Q := fun xs s' => ∃ (l : List Str), xs = l.map (fun x => D.str x) /\ l.length <= ps.length /\ (∀ x ∈ l, x ∈ ps) /\ Fd s' n (c + ps.length) /\ Same n s s') (PaJ s n c ps) ?_ ?_ _ [] s ⟨[], ps, c, rfl, rfl, by simp, (fun x hx => by cases hx), (fun _ hx => hx), h, Nat.le_refl _, Same.refl _ _⟩) ?_
 ·rintro d r acc s' ⟨l, rs, c', ha, hr, hl, hx, hy, fd, hcc, sm⟩
  cases rs with
  | nil => cases hr
  | cons y rs =>
   rw [List.map_cons, List.map_cons, List.cons.injEq] at hr
   obtain ⟨rfl, rfl⟩ := hr
   refine ⟨[some (.str y), some (.ref n)], rfl, ?_⟩
   walk_at "go"
   refine R.W_mono (draw_ok fd (by decide) (by decide) (by simp at hcc; omega)) fun d s1 q => ?_
   obtain ⟨i, e, i0, i1, fd1, sm1⟩ := q
   rw [e]; clear e
   walk_at "go"
   rw [eq0]
   by_cases e : i = 0
   ·rw [decide_eq_true e]
    walk_at "go"
    refine ⟨l ++ [y], rs, c' + 1, by rw [ha]; simp, rfl, by simp at hl ⊢; omega, fun x hx' => ?_, fun x hx' => hy x (List.mem_cons_of_mem _ hx'), fd1, by simp at hcc; omega, sm.trans sm1⟩
    rcases List.mem_append.mp hx' with z | z
    ·exact hx x z
    ·rw [List.mem_singleton.mp z]; exact hy y List.mem_cons_self
   ·rw [decide_eq_false e]
    walk_at "go"
    exact ⟨l, rs, c' + 1, ha, rfl, by simp at hl; omega, hx, fun x hx' => hy x (List.mem_cons_of_mem _ hx'), fd1, by simp at hcc; omega, sm.trans sm1⟩
 ·rintro acc s' ⟨l, rs, c', ha, hr, hl, hx, hy, fd, hcc, sm⟩
  exact ⟨l, ha, by omega, hx, fd.le (by omega), sm⟩
 ·rintro ds s1 ⟨xs, e, hl, hx, fd1, sm1⟩
  rw [List.nil_append] at e
  subst e
  walk_at "go"
  rw [show xs.map (fun x => D.str x) = (xs.map PyData.str).map D.da by rw [List.map_map]; rfl]
  walk_at "go"
  have hn : n < s.length := h.lt
  have hs1 := sm1.len
  have g0 : Gr s (s1 ++ [O.lst [], O.lst [], O.lst [], O.lst [.ref s1.length, .ref (s1.length + 1), .ref (s1.length + 2)]]) n s1.length (fun _ => []) 0 b := by
   refine ⟨fun i hi => ?_, ?_, ⟨hs1, hn⟩, fun _ => Nat.le_refl _, (fun i p hp => by cases hp), sm1.trans ((Ext.add s1 _).same n)⟩
   ·have : i = 0 \/ i = 1 \/ i = 2 := by omega
    rcases this with rfl | rfl | rfl <;> simp [gpD, List.getElem?_append_right]
   ·simp [List.getElem?_append_right]
  have fd2 := fd1.ext (Ext.add s1 [O.lst [], O.lst [], O.lst [], O.lst [.ref s1.length, .ref (s1.length + 1), .ref (s1.length + 2)]])
  generalize (s1 ++ [O.lst [], O.lst [], O.lst [], O.lst [.ref s1.length, .ref (s1.length + 1), .ref (s1.length + 2)]]) = s2 at g0 fd2 ⊢
  generalize s1.length = g at g0 ⊢
  clear sm1 fd1 hs1
  show (loopF (.nm 7) s1B _ _ _ _).W _
  refine loop_inv (S1J s n g (c + ps.length) b (.int (T : Int)) (.lst (ps.map PyData.str)) (.int (b : Int)) (.lst (pl.map PyData.int)) xs) ?_ ?_ _ _ _ ⟨xs, _, 0, _, none, rfl, (fun _ z => z), g0, by omega, fd2, Nat.le_refl _, rfl⟩
  ·rintro d r ρ s' ⟨rs, G, k, c', u, e2, hr, gr, hk, fd, hcc, rfl⟩
   cases rs with
   | nil => cases e2
   | cons y rs =>
    rw [List.map_cons, List.map_cons, List.cons.injEq] at e2
    obtain ⟨rfl, rfl⟩ := e2
    refine ⟨[some (.ref n), some (.int (T : Int)), some (.lst (ps.map PyData.str)), some (.int (b : Int)), some (.lst (pl.map PyData.int)), some (.lst (xs.map PyData.str)), some (.ref (g + 3)), some (.str y), none, none, none, none, none], rfl, ?_⟩
    unfold s1B
    simp only [List.length_cons] at hk hcc
    refine put_ok (p := .port y) gr fd (by omega) (by omega) ⟨rfl, hps y (hx y (hr y List.mem_cons_self))⟩ (fun _ => rfl) (fun _ => rfl) (fun _ => rfl) fun G3 s3 gr3 fd3 => ?_
    exact ⟨rs, G3, k + 1, c' + 1, _, rfl, fun x hx' => hr x (List.mem_cons_of_mem _ hx'), gr3, by omega, fd3, by omega, rfl⟩
  ·rintro ρ s' ⟨rs, G, k, c', u, e2, hr, gr, hk, fd, hcc, rfl⟩
   have hk5 : k <= 5 := by omega
   have hcc : c' <= c + 10 := by omega
   clear e2 hr hk g0 fd2
   walk_at "go"
   rw [rng_ok (by omega) (by omega), show ((b : Int)).toNat = b from Int.toNat_natCast _]
   walk_at "go"
   show (loopF (.nm 8) s2B _ _ _ _).W _
   refine loop_inv (S2J s n g (c + 10) b (.int (T : Int)) (.lst (ps.map PyData.str)) (.int (b : Int)) (.lst (pl.map PyData.int)) (.lst (xs.map PyData.str)) u) ?_ ?_ _ _ _ ⟨0, G, k, c', none, none, rfl, Nat.zero_le _, gr, by omega, fd, by omega, rfl⟩
   ·rintro d r ρ s3 ⟨j, G, k, c', u8, u9, hr, hj, gr, hk, fd, hcc, rfl⟩
    by_cases hjb : j < b
    ·rw [show b - j = (b - (j + 1)) + 1 by omega, rngD, List.cons.injEq] at hr
     obtain ⟨rfl, rfl⟩ := hr
     refine ⟨[some (.ref n), some (.int (T : Int)), some (.lst (ps.map PyData.str)), some (.int (b : Int)), some (.lst (pl.map PyData.int)), some (.lst (xs.map PyData.str)), some (.ref (g + 3)), u, some (.int (j : Int)), u9, none, none, none], rfl, ?_⟩
     refine s2_turn gr fd (by omega) (by omega) hjb fun G' k' u' s4 gr4 hk4 fd4 => ?_
     exact ⟨j + 1, G', k', c' + 3, _, _, by rw [Int.natCast_succ], hjb, gr4, by omega, fd4, by omega, rfl⟩
    ·rw [show b - j = 0 by omega] at hr
     cases hr
   ·rintro ρ s3 ⟨j, G, k, c', u8, u9, hr, hj, gr, hk, fd, hcc, rfl⟩
    have gr9 := gr.mono (N' := 9) (by omega)
    have hcc : c' <= c + 20 := by omega
    clear hr hj gr hk
    walk_at "go"
    have hgl := (List.getElem?_eq_some_iff.mp gr9.all).1
    have gr' : Gr s (s3 ++ [O.lst []]) n g G 9 b := gr9.same ((Ext.add s3 _).same n)
    have fd' := fd.ext (Ext.add s3 [O.lst []])
    have ht : (s3 ++ [O.lst []])[s3.length]? = some (.lst ((([] : List Ti).map Ti.d).map D.da)) := by simp
    generalize (s3 ++ [O.lst []]) = s4 at gr' fd' ht ⊢
    generalize s3.length = t at hgl ht ⊢
    rw [it_ref gr'.all]
    walk_at "go"
    have hsrc : ∀ ρ, kFor (.nm 11) s3B ρ ([.ref g, .ref (g + 1), .ref (g + 2)], some (g + 3)) s4 = loopF (.nm 11) s3B ([.ref g, .ref (g + 1), .ref (g + 2)], some (g + 3)) [.ref g, .ref (g + 1), .ref (g + 2)] ρ s4 := fun ρ => chk_pos (show SrcOk _ s4 from gr'.all)
    show (kFor (.nm 11) s3B _ _ _).W _
    rw [hsrc]
    refine loop_invS (S3J s n g t (c + 20) b T G (.lst (ps.map PyData.str)) (.int (b : Int)) (.lst (pl.map PyData.int)) (.lst (xs.map PyData.str)) u u8 u9) ?_ ?_ ?_ _ _ _ ⟨0, [], c', none, by decide, rfl, gr', by omega, ht, Nat.le_refl _, (fun x hx => by cases hx), fd', by omega, rfl⟩
    ·rintro r ρ s5 ⟨i, ts, c', u', _, _, gr5, _⟩
     exact gr5.all
    ·rintro d r ρ s5 ⟨i, ts, c', u', hi, hr, gr5, htg, et, hl, hts, fd5, hcc, rfl⟩
     by_cases hi3 : i < 3
     ·have hdr : ([.ref g, .ref (g + 1), .ref (g + 2)] : List D).drop i = .ref (g + i) :: ([.ref g, .ref (g + 1), .ref (g + 2)] : List D).drop (i + 1) := by
       have : i = 0 \/ i = 1 \/ i = 2 := by omega
       rcases this with rfl | rfl | rfl <;> rfl
      rw [hdr, List.cons.injEq] at hr
      obtain ⟨rfl, rfl⟩ := hr
      refine ⟨[some (.ref n), some (.int (T : Int)), some (.lst (ps.map PyData.str)), some (.int (b : Int)), some (.lst (pl.map PyData.int)), some (.lst (xs.map PyData.str)), some (.ref (g + 3)), u, u8, u9, some (.ref t), some (.ref (g + i)), none], rfl, ?_⟩
      refine s3_turn gr5 (by omega) hT0 hT hi3 htg et (by omega) hts fd5 (by omega) ?_ fun x s6 hx6 gr6 et6 fd6 => ?_
      ·exact ⟨i + 1, ts, c', _, hi3, rfl, gr5, htg, et, by omega, hts, fd5, by omega, rfl⟩
      ·refine ⟨i + 1, ts ++ [x], c' + 4, _, hi3, rfl, gr6, htg, et6, by simp; omega, fun y hy => ?_, fd6, by omega, rfl⟩
       rcases List.mem_append.mp hy with z | z
       ·exact hts y z
       ·rw [List.mem_singleton.mp z]; exact hx6
     ·rw [List.drop_eq_nil_of_le (by simp; omega)] at hr
      cases hr
    ·rintro ρ s5 ⟨i, ts, c', u', hi, hr, gr5, htg, et, hl, hts, fd5, hcc, rfl⟩
     walk_at "go"
     refine pl_draw hpl fd5 (by omega) fun x s6 hx6 fd6 sm6 => ?_
     walk_at "go"
     have hxs : ∀ y ∈ xs, okPort y = true := fun y hy => hps y (hx y hy)
     obtain ⟨l', es, el, hl'⟩ := sort_strs (s := s6) hxs (by omega)
     rw [es]
     walk_at "go"
     have htl := (List.getElem?_eq_some_iff.mp et).1
     obtain ⟨b1, b2⟩ := gr5.big
     have et6 : s6[t]? = some (.lst ((ts.map Ti.d).map D.da)) := by rw [sm6.get _ (by omega) htl]; exact et
     rw [tuple_ref et6]
     walk_at "go"
     refine pl_draw hpl fd6 (by omega) fun y s7 hy7 fd7 sm7 => ?_
     walk_at "go"
     exact ⟨⟨x, l'.map PyData.str, ts, y⟩, rfl, ⟨hts, by show ts.length <= 3; omega, hx6, hy7, l', rfl, by omega, hl'⟩, fd7.le (by omega), (gr5.sm.trans sm6).trans sm7⟩
end Ln
namespace Ln
open PySem L2 PF
theorem notin_ref {s : S} {n : Nat} {xs ys : List PyData} (h : s[n]? = some (.lst (xs.map D.da))) (h1 : okD (.tuple ys) = true) (h2 : xs.all okD = true) : gNotIn (.tup ys) (.ref n) s = .ok (.bl (!xs.any fun d => PyData.eqv d (.tuple ys))) s := by
 show gInS true (.tup ys) (.ref n) s = _
 unfold gInS
 rw [toP_ref h, show toP s (.tup ys) = some (.tuple ys) from rfl]
 show (if okD (.tuple ys) = true /\ xs.all okD = true then R.ok (D.bl (nb true (xs.any fun d => PyData.eqv d (.tuple ys)))) s else .bad) = _
 rw [if_pos ⟨h1, h2⟩]; rfl
structure HeJ (s : S) (n c b : Nat) (m : Nat) (r acc : List D) (s' : S) : Prop where
 ex : ∃ (h : Hd) (k c' : Nat), acc = h.map (fun o => D.da (hD o)) /\ r = rngD k (b - k) /\ k <= b /\ h.length = k /\ hdOk h /\ Fd s' n c' /\ c' + m * (b - k) <= c + m * b /\ Same n s s'
theorem held_fin {h : Hd} {s : S} : kNewL false (h.map fun o => D.da (hD o)) s = .ok (.lst (h.map hD)) s := by
 rw [show h.map (fun o => D.da (hD o)) = (h.map hD).map D.da by rw [List.map_map]; rfl]; exact e_newF
theorem hd_app {h : Hd} {o : Option Int} (a : hdOk h) (k : ∀ x, o = some x -> 0 <= x /\ x < 3) : hdOk (h ++ [o]) := fun y hy x e => by
 rcases List.mem_append.mp hy with z | z
 ·exact a y z x e
 ·rw [List.mem_singleton.mp z] at e; exact k x e
theorem mul_step (m b k : Nat) (h : k < b) : m * (b - k) = m * (b - (k + 1)) + m := by
 rw [show b - k = (b - (k + 1)) + 1 by omega, Nat.mul_succ]
theorem held_comp {s : S} {n c b : Nat} {ρ0 : En} {fe : FE} (h : Fd s n c) (hb : b <= 2) (hc : c + 10 < 2 ^ 40)
  (step : ∀ (k : Int) (s1 : S) (c1 : Nat), Fd s1 n c1 -> c1 <= c + 4 -> ∃ ρ1, setD (.nm 0) (.int k) ρ0 = some ρ1 /\ (fe ρ1 s1).W fun d s2 => ∃ o : Option Int, d = .da (hD o) /\ (∀ x, o = some x -> 0 <= x /\ x < 3) /\ Fd s2 n (c1 + 2) /\ Same n s1 s2) :
  (compF (.nm 0) fYes fe ρ0 (rngD 0 b, none) (rngD 0 b) s).W fun ds s' => ∃ h : Hd, ds = h.map (fun o => D.da (hD o)) /\ h.length = b /\ hdOk h /\ Fd s' n (c + 4) /\ Same n s s' := by
 refine R.W_mono (comp_inv (Q := fun ds s' => ∃ h : Hd, ds = h.map (fun o => D.da (hD o)) /\ h.length = b /\ hdOk h /\ Fd s' n (c + 4) /\ Same n s s') (HeJ s n c b 2) ?_ ?_ (rngD 0 b) [] s ⟨[], 0, c, rfl, rfl, Nat.zero_le _, rfl, (fun o ho => by cases ho), h, Nat.le_refl _, Same.refl _ _⟩) fun ds s' q => by rw [List.nil_append] at q; exact q
 ·rintro d r acc s' ⟨hh, k, c', ha, hr, hk, hl, ho, fd, hcc, sm⟩
  by_cases hkb : k < b
  ·rw [show b - k = (b - (k + 1)) + 1 by omega, rngD, List.cons.injEq] at hr
   obtain ⟨rfl, rfl⟩ := hr
   have := mul_step 2 b k hkb
   obtain ⟨ρ1, e1, w⟩ := step (k : Int) s' c' fd (by omega)
   refine ⟨ρ1, e1, ?_⟩
   rw [e_yes, R.W_ok, if_pos rfl]
   refine R.W_mono w fun d s2 q => ?_
   obtain ⟨o, rfl, hx, fd2, sm2⟩ := q
   exact ⟨hh ++ [o], k + 1, c' + 2, by rw [ha]; simp, by rw [Int.natCast_succ], hkb, by simp [hl], hd_app ho hx, fd2, by omega, sm.trans sm2⟩
  ·rw [show b - k = 0 by omega] at hr
   cases hr
 ·rintro acc s' ⟨hh, k, c', ha, hr, hk, hl, ho, fd, hcc, sm⟩
  have hkb : k = b := by
   by_cases z : k < b
   ·rw [show b - k = (b - (k + 1)) + 1 by omega] at hr
    cases hr
   ·omega
  exact ⟨hh, ha, by omega, ho, fd.le (by omega), sm⟩
theorem one_of {s : S} {x : Int} {j : Nat} (hj : j < 2) : gIx (.lst [.none, .int x]) (.int (j : Int)) s = .ok (.da (hD (if j = 0 then none else some x))) s := by
 have : j = 0 \/ j = 1 := by omega
 rcases this with rfl | rfl
 ·exact il0
 ·exact il1
structure McJ (s : S) (n g c b : Nat) (T ps mo pl bx : D) (M : Nat) (r : List D) (ρ : En) (s' : S) : Prop where
 ex : ∃ (sts : List Stp) (c' : Nat) (u v : Option D), sts.length + r.length <= M /\ s'[g]? = some (.lst ((sts.map Stp.d).map D.da)) /\ (∀ st ∈ sts, StOk b st) /\ Fd s' n c' /\ c' + 100 * r.length <= c + 100 * M /\ Same n s s' /\ s.length <= g /\ n < s.length /\
  ρ = [some (.ref n), some T, some ps, some mo, some pl, some bx, some (.ref g), u, v, none]
noncomputable def mcB : FS := (fSeq (fSet 8 (fCall 5 F_law_step (fCons (fVar 0) (fCons (fVar 1) (fCons (fVar 2) (fCons (fVar 5) (fCons (fVar 4) fNil)))))))
  (fIfS (fTest (fOp gNotIn (fVar 8) (fVar 6))) (fDrop (fMt gAppend (fVar 6) (fCons (fVar 8) fNil))) fNext))
theorem mc_turn {s : S} {n g c b T M : Nat} {ps : List Str} {pl : List Int} {mo : D} {d : D} {r : List D} {ρ : En} {s' : S} {Q : Fl -> S -> Prop} (hT0 : 0 < T) (hT : T <= 3) (hb : b <= 2) (hps : ∀ x ∈ ps, okPort x = true) (hp5 : ps.length <= 5) (hpl : PlOk pl) (hM : M <= 10) (hc : c + 5000 < 2 ^ 40)
  (J : McJ s n g c b (.int (T : Int)) (.lst (ps.map PyData.str)) mo (.lst (pl.map PyData.int)) (.int (b : Int)) M (d :: r) ρ s') :
  ∃ ρ1, setD (.nm 7) d ρ = some ρ1 /\ (mcB ρ1 s').W (flW (McJ s n g c b (.int (T : Int)) (.lst (ps.map PyData.str)) mo (.lst (pl.map PyData.int)) (.int (b : Int)) M r) Q) := by
 obtain ⟨sts, c', u, v, hl, eg, hst, fd, hcc, sm, hsg, hn, rfl⟩ := J.ex
 rw [List.length_cons] at hl hcc
 refine ⟨[some (.ref n), some (.int (T : Int)), some (.lst (ps.map PyData.str)), some mo, some (.lst (pl.map PyData.int)), some (.int (b : Int)), some (.ref g), some d, v, none], rfl, ?_⟩
 have q := step_ok (s := s') (n := n) (c := c') (T := T) (b := b) fd hT0 hT hb hps hp5 hpl (by omega)
 unfold mcB
 generalize F_law_step = FS1 at q ⊢
 walk_at "go"
 refine q.mono fun d1 s1 q => ?_
 obtain ⟨st, e, so, fd1, sm1⟩ := q
 rw [e]; clear e
 walk_at "go"
 have hgl := (List.getElem?_eq_some_iff.mp eg).1
 have eg1 : s1[g]? = some (.lst ((sts.map Stp.d).map D.da)) := by rw [sm1.get _ (by omega) hgl]; exact eg
 have hok : (sts.map Stp.d).all okD = true := List.all_eq_true.mpr fun d hd => by
  obtain ⟨x, hx, rfl⟩ := List.mem_map.mp hd
  exact (nice_step (by omega) (hst x hx)).okD (by decide)
 rw [show gNotIn (.da st.d) (.ref g) s1 = .ok (.bl (!(sts.map Stp.d).any fun d => PyData.eqv d st.d)) s1 from notin_ref eg1 ((nice_step (by omega) so).okD (by decide)) hok]
 cases (sts.map Stp.d).any fun d => PyData.eqv d st.d with
 | true =>
  walk_at "go"
  exact ⟨sts, c' + 100, _, _, by omega, eg1, hst, fd1, by omega, sm.trans sm1, hsg, hn, rfl⟩
 | false =>
  walk_at "go"
  rw [e_mt1 eg1]
  walk_at "go"
  rw [append_ok eg1 (by simp; omega)]
  walk_at "go"
  refine ⟨sts ++ [st], c' + 100, _, _, by simp; omega, ?_, fun x hx => ?_, fd1.set (by omega), by omega, (sm.trans sm1).own hsg, hsg, hn, rfl⟩
  ·rw [List.getElem?_set_self (by have := sm1.len; omega)]; simp
  ·rcases List.mem_append.mp hx with z | z
   ·exact hst x z
   ·rw [List.mem_singleton.mp z]; exact so
def plc : List (List Int) := [[4], [0, 1], [1, 0], [1000000000000, 3, 0]]
theorem plc_ok : ∀ p ∈ plc, PlOk p := by
 intro p hp
 simp only [plc, List.mem_cons, List.not_mem_nil, or_false] at hp
 rcases hp with rfl | rfl | rfl | rfl <;> exact ⟨by decide, by decide, by decide⟩
theorem machine_ok {s : S} {n c T : Nat} {ps : List Str} (h : Fd s n c) (hT0 : 0 < T) (hT : T <= 3) (hps : ∀ x ∈ ps, okPort x = true) (hp5 : ps.length <= 5) (hc : c + 10000 < 2 ^ 40) :
  DW (F_law_machine [.ref n, .int (T : Int), .lst (ps.map PyData.str), .int 5] s) fun d s' => ∃ m : Mc, d = .da m.d /\ McOk m /\ m.n = T /\ m.b <= 2 /\ Fd s' n (c + 1000) /\ Same n s s' := by
 refine ⟨?_⟩
 rw [e_law_machine]; unfold B_law_machine
 walk_at "go"
 rw [gPow_int (by decide) (by decide) (by decide)]
 walk_at "go"
 refine R.W_mono (draw_ok h (by decide) (by decide) (by omega)) fun d s1 q => ?_
 obtain ⟨i, e, i0, i1, fd1, sm1⟩ := q
 rw [e]; clear e
 obtain ⟨j, rfl⟩ : ∃ j : Nat, i = (j : Int) := ⟨i.toNat, by omega⟩
 have hj : j < plc.length := by show j < 4; omega
 walk_at "go"
 rw [show (10 : Int) ^ Int.toNat 12 = 1000000000000 from by decide]
 rw [gIx_lst (p := .list (plc[j].map PyData.int)) (by
  have : ([.list [.int 4], .list [.int 0, .int 1], .list [.int 1, .int 0], .list [.int 1000000000000, .int 3, .int 0]] : List PyData) = plc.map fun l => .list (l.map PyData.int) := rfl
  rw [this, List.getElem?_map, List.getElem?_eq_getElem hj]; rfl)]
 have hpl := plc_ok _ (List.getElem_mem hj)
 generalize plc[j] = pl at hpl ⊢
 walk_at "go"
 refine R.W_mono (draw_ok fd1 (by decide) (by decide) (by omega)) fun d s2 q => ?_
 obtain ⟨i, e, b0, b1, fd2, sm2⟩ := q
 rw [e]; clear e
 obtain ⟨b, rfl⟩ : ∃ b : Nat, i = (b : Int) := ⟨i.toNat, by omega⟩
 have hb : b <= 2 := by omega
 walk_at "go"
 have hn := h.lt
 have sm3 := (sm1.trans sm2).trans ((Ext.add s2 [O.lst []]).same n)
 have fd3 := fd2.ext (Ext.add s2 [O.lst []])
 have eg : (s2 ++ [O.lst []])[s2.length]? = some (.lst ((([] : List Stp).map Stp.d).map D.da)) := by simp
 have hsg : s.length <= s2.length := (sm1.trans sm2).len
 generalize (s2 ++ [O.lst []]) = s3 at sm3 fd3 eg ⊢
 generalize s2.length = g at eg hsg ⊢
 refine R.W_mono (draw_ok fd3 (by decide) (by decide) (by omega)) fun d s4 q => ?_
 obtain ⟨i, e, r0, r1, fd4, sm4⟩ := q
 rw [e]; clear e
 obtain ⟨r, rfl⟩ : ∃ r : Nat, i = (r : Int) := ⟨i.toNat, by omega⟩
 walk_at "go"
 rw [rng_ok (by omega) (by omega), show ((r : Int)).toNat = r from Int.toNat_natCast _]
 walk_at "go"
 have hgl := (List.getElem?_eq_some_iff.mp eg).1
 have eg4 : s4[g]? = some (.lst ((([] : List Stp).map Stp.d).map D.da)) := by rw [sm4.get _ (by omega) hgl]; exact eg
 show (loopF (.nm 7) mcB _ _ _ _).W _
 refine loop_inv (McJ s n g (c + 3) b (.int (T : Int)) (.lst (ps.map PyData.str)) (.int 5) (.lst (pl.map PyData.int)) (.int (b : Int)) r) ?_ ?_ _ _ _ ⟨[], c + 3, none, none, by rw [rng_len]; simp, eg4, (fun st hst => by cases hst), fd4, by rw [rng_len]; omega, sm3.trans sm4, hsg, hn, rfl⟩
 ·intro d r' ρ s5 J
  exact mc_turn hT0 hT hb hps hp5 hpl (by omega) (by omega) J
 ·rintro ρ s5 ⟨sts, c', u, v, hl, eg5, hst, fd5, hcc, sm5, _, _, rfl⟩
  simp only [List.length_nil] at hl hcc
  walk_at "go"
  rw [rng_ok (by omega) (by omega), show ((b : Int)).toNat = b from Int.toNat_natCast _]
  walk_at "go"
  rw [e_lc1 (ρ0 := [none, some (.ref n), some (.int (T : Int))]) (by rw [rng_len]; omega) rfl, R.W_bindk]
  refine R.W_mono (held_comp fd5 hb (by omega) fun k s6 c6 fd6 hc6 => ⟨[some (.int k), some (.ref n), some (.int (T : Int))], rfl, ?_⟩) fun ds s6 q => ?_
  ·walk_at "go"
   refine R.W_mono (draw_ok fd6 (by omega) (by omega) (by omega)) fun d s7 q => ?_
   obtain ⟨x, e, x0, x1, fd7, sm7⟩ := q
   rw [e]; clear e
   walk_at "go"
   refine R.W_mono (draw_ok fd7 (by decide) (by decide) (by omega)) fun d s8 q => ?_
   obtain ⟨y, e, y0, y1, fd8, sm8⟩ := q
   rw [e]; clear e
   obtain ⟨y, rfl⟩ : ∃ r : Nat, y = (r : Int) := ⟨y.toNat, by omega⟩
   walk_at "go"
   rw [one_of (by omega)]
   walk_at "go"
   refine ⟨_, rfl, fun z hz => ?_, fd8, sm7.trans sm8⟩
   split at hz
   ·cases hz
   ·cases hz; omega
  ·obtain ⟨hd, rfl, hdl, hdo, fd6, sm6⟩ := q
   walk_at "go"
   rw [held_fin]
   walk_at "go"
   obtain ⟨l', es, el, hl'⟩ := sort_strs (s := s6) hps (by omega)
   rw [es]
   walk_at "go"
   have hpos := hpl.pos
   rw [show ∀ s2, gIx (.lst (pl.map PyData.int)) (.int 0) s2 = .ok (.int pl[0]) s2 from fun s2 => gIx_lst (k := 0) (by rw [List.getElem?_map, List.getElem?_eq_getElem hpos]; rfl)]
   walk_at "go"
   have hgl5 := (List.getElem?_eq_some_iff.mp eg5).1
   have eg6 : s6[g]? = some (.lst ((sts.map Stp.d).map D.da)) := by rw [sm6.get _ (by omega) hgl5]; exact eg5
   rw [tuple_ref eg6]
   walk_at "go"
   exact ⟨⟨T, l'.map PyData.str, b, pl[0], hd, sts⟩, rfl, ⟨by show 0 < (T : Int) /\ (T : Int) <= 3; omega, ⟨l', rfl, by omega, hl'⟩, by show b <= 1000; omega, hpl.ok _ (List.getElem_mem hpos), hdl, hdo, hst, by show sts.length <= 10; omega⟩, rfl, hb, fd6.le (by omega), sm5.trans sm6⟩
end Ln
namespace Ln
open PySem L2 PF
structure FuJ (s : S) (n c b : Nat) (r acc : List D) (s' : S) : Prop where
 ex : ∃ (h : List Int) (k c' : Nat), acc = h.map (fun x => D.int x) /\ r = rngD k (b - k) /\ k <= b /\ h.length = k /\ (∀ x ∈ h, 0 <= x /\ x < 3) /\ Fd s' n c' /\ c' + (b - k) <= c + b /\ Same n s s'
theorem any_ok {s : S} {n c : Nat} {m : Mc} (h : Fd s n c) (hm : McOk m) (hb : m.b <= 2) (hc : c + 100 < 2 ^ 40) : DW (F_law_any_stand [.ref n, .da m.d] s) fun d s' => ∃ p hd, d = .da (stD p hd) /\ SdOk m p hd /\ Fd s' n (c + 20) /\ Same n s s' := by
 have hn := hm.n
 obtain ⟨T, hT⟩ : ∃ T : Nat, m.n = (T : Int) := ⟨m.n.toNat, by omega⟩
 have n10 := hm.n10
 have hL : ∃ pl : List Int, (m.sts.map (fun st => PyData.int st.a) ++ (m.sts.map (fun st => PyData.int st.b) ++ [.int m.p, .int 2])) = pl.map PyData.int /\ 0 < pl.length /\ pl.length <= 22 /\ ∀ x ∈ pl, plOk x = true := by
  refine ⟨m.sts.map Stp.a ++ (m.sts.map Stp.b ++ [m.p, 2]), by simp; rfl, by simp; omega, by simp; omega, fun x hx => ?_⟩
  rcases List.mem_append.mp hx with z | z
  ·obtain ⟨st, hst, rfl⟩ := List.mem_map.mp z; exact (hm.st st hst).a
  ·rcases List.mem_append.mp z with z | z
   ·obtain ⟨st, hst, rfl⟩ := List.mem_map.mp z; exact (hm.st st hst).b
   ·simp only [List.mem_cons, List.not_mem_nil, or_false] at z
    rcases z with rfl | rfl
    ·exact hm.p
    ·rfl
 obtain ⟨pl, el, pl0, pl1, plk⟩ := hL
 have e4 : ∀ s2, gIx (.da m.d) (.int 4) s2 = .ok (.tup (m.sts.map Stp.d)) s2 := fun _ => it4
 have e3 : ∀ s2, gIx (.da m.d) (.int 3) s2 = .ok (.da (stD m.p m.h)) s2 := fun _ => it3
 have e2 : ∀ s2, gIx (.da m.d) (.int 2) s2 = .ok (.int (m.b : Int)) s2 := fun _ => it2
 have e0 : ∀ s2, gIx (.da m.d) (.int 0) s2 = .ok (.int m.n) s2 := fun _ => it0
 refine ⟨?_⟩
 rw [e_law_any_stand]; unfold B_law_any_stand
 walk_at "go"
 rw [e4]
 walk_at "go"
 rw [e_lc1 (ρ0 := [none]) (by simp; omega) rfl]
 rw [show (m.sts.map Stp.d).map D.da = m.sts.map (fun st => D.da st.d) by rw [List.map_map]; rfl]
 rw [comp_da (fun st : Stp => D.da st.d) (fun _ => true) (fun st => .int st.a) m.sts fun st _ => ⟨[some (.da st.d)], rfl, rfl, fun _ => by
  walk_at "ev"
  exact it0⟩]
 walk_at "go"
 rw [e4]
 walk_at "go"
 rw [e_lc1 (ρ0 := [none]) (by simp; omega) rfl]
 rw [show (m.sts.map Stp.d).map D.da = m.sts.map (fun st => D.da st.d) by rw [List.map_map]; rfl]
 rw [comp_da (fun st : Stp => D.da st.d) (fun _ => true) (fun st => .int st.b) m.sts fun st _ => ⟨[some (.da st.d)], rfl, rfl, fun _ => by
  walk_at "ev"
  exact it3⟩]
 walk_at "go"
 rw [show m.sts.filter (fun _ => true) = m.sts by simp, gAdd_lst (by simp; omega)]
 walk_at "go"
 rw [e3]
 walk_at "go"
 rw [show ∀ s2, gIx (.da (stD m.p m.h)) (.int 0) s2 = .ok (.int m.p) s2 from fun _ => it0]
 walk_at "go"
 rw [gAdd_lst (by simp; omega)]
 walk_at "go"
 rw [el]; clear el
 rw [e2]
 walk_at "go"
 rw [rng_ok (by omega) (by omega), show ((m.b : Int)).toNat = m.b from Int.toNat_natCast _]
 walk_at "go"
 rw [e_lc1 (ρ0 := [none, some (.ref n), some (.da m.d)]) (by rw [rng_len]; omega) rfl, R.W_bindk]
 refine R.W_mono (held_comp h hb (by omega) fun k s6 c6 fd6 hc6 => ⟨[some (.int k), some (.ref n), some (.da m.d)], rfl, ?_⟩) fun ds s6 q => ?_
 ·walk_at "go"
  rw [e0]
  walk_at "go"
  refine R.W_mono (draw_ok fd6 (by omega) (by omega) (by omega)) fun d s7 q => ?_
  obtain ⟨x, e, x0, x1, fd7, sm7⟩ := q
  rw [e]; clear e
  walk_at "go"
  refine R.W_mono (draw_ok fd7 (by decide) (by decide) (by omega)) fun d s8 q => ?_
  obtain ⟨y, e, y0, y1, fd8, sm8⟩ := q
  rw [e]; clear e
  walk_at "go"
  rw [gDiv_int (by decide) (by decide)]
  obtain ⟨j, hj⟩ : ∃ r : Nat, y / 2 = (r : Int) := ⟨(y / 2).toNat, by omega⟩
  walk_at "go"
  rw [hj, one_of (by omega)]
  walk_at "go"
  refine ⟨_, rfl, fun z hz => ?_, fd8, sm7.trans sm8⟩
  split at hz
  ·cases hz
  ·cases hz; omega
 ·obtain ⟨hd, rfl, hdl, hdo, fd6, sm6⟩ := q
  walk_at "go"
  rw [held_fin]
  walk_at "go"
  rw [e2]
  walk_at "go"
  rw [rng_ok (by omega) (by omega), show ((m.b : Int)).toNat = m.b from Int.toNat_natCast _]
  walk_at "go"
  rw [e_lc1 (ρ0 := [none, some (.ref n), some (.da m.d)]) (by rw [rng_len]; omega) rfl, R.W_bindk]
  refine R.W_mono (comp_inv (Q := fun ds s' => ∃ h : List Int, ds = h.map (fun x => D.int x) /\ h.length = m.b /\ (∀ x ∈ h, 0 <= x /\ x < 3) /\ Fd s' n (c + 4 + 2) /\ Same n s6 s') (FuJ s6 n (c + 4) m.b) ?_ ?_ (rngD 0 m.b) [] s6 ⟨[], 0, c + 4, rfl, rfl, Nat.zero_le _, rfl, (fun o ho => by cases ho), fd6, Nat.le_refl _, Same.refl _ _⟩) ?_
  ·rintro d r acc s' ⟨hh, k, c', ha, hr, hk, hl, ho, fd, hcc, sm⟩
   by_cases hkb : k < m.b
   ·rw [show m.b - k = (m.b - (k + 1)) + 1 by omega, rngD, List.cons.injEq] at hr
    obtain ⟨rfl, rfl⟩ := hr
    refine ⟨[some (.int (k : Int)), some (.ref n), some (.da m.d)], rfl, ?_⟩
    walk_at "go"
    rw [e0]
    walk_at "go"
    refine R.W_mono (draw_ok fd (by omega) (by omega) (by omega)) fun d s7 q => ?_
    obtain ⟨x, e, x0, x1, fd7, sm7⟩ := q
    rw [e]; clear e
    refine ⟨hh ++ [x], k + 1, c' + 1, by rw [ha]; simp, by rw [Int.natCast_succ], hkb, by simp [hl], fun y hy => ?_, fd7, by omega, sm.trans sm7⟩
    rcases List.mem_append.mp hy with z | z
    ·exact ho y z
    ·rw [List.mem_singleton.mp z]; omega
   ·rw [show m.b - k = 0 by omega] at hr
    cases hr
  ·rintro acc s' ⟨hh, k, c', ha, hr, hk, hl, ho, fd, hcc, sm⟩
   have hkb : k = m.b := by
    by_cases z : k < m.b
    ·rw [show m.b - k = (m.b - (k + 1)) + 1 by omega] at hr
     cases hr
    ·omega
   exact ⟨hh, ha, by omega, ho, fd.le (by omega), sm⟩
  ·rintro ds s7 ⟨fu, e, ful, fuo, fd7, sm7⟩
   rw [List.nil_append] at e
   subst e
   walk_at "go"
   rw [show fu.map (fun x => D.int x) = (fu.map PyData.int).map D.da by rw [List.map_map]; rfl]
   walk_at "go"
   rw [List.length_map]
   refine R.W_mono (draw_ok fd7 (by omega) (by omega) (by omega)) fun d s8 q => ?_
   obtain ⟨i, e, i0, i1, fd8, sm8⟩ := q
   rw [e]; clear e
   obtain ⟨i, rfl⟩ : ∃ j : Nat, i = (j : Int) := ⟨i.toNat, by omega⟩
   have hi : i < pl.length := by omega
   walk_at "go"
   rw [gIx_lst (p := .int pl[i]) (by rw [List.getElem?_map, List.getElem?_eq_getElem hi]; rfl)]
   walk_at "go"
   refine R.W_mono (draw_ok fd8 (by decide) (by decide) (by omega)) fun d s9 q => ?_
   obtain ⟨j, e, j0, j1, fd9, sm9⟩ := q
   rw [e]; clear e
   walk_at "go"
   have hfu : fu.map PyData.int = (fu.map some).map hD := by rw [List.map_map]; rfl
   have so1 : SdOk m pl[i] hd := ⟨plk _ (List.getElem_mem hi), hdl, hdo⟩
   have so2 : SdOk m pl[i] (fu.map some) := ⟨plk _ (List.getElem_mem hi), by rw [List.length_map]; exact ful, fun o ho x e => by
    obtain ⟨y, hy, ey⟩ := List.mem_map.mp ho
    rw [e] at ey
    injection ey with ey
    rw [← ey]; exact fuo y hy⟩
   have hj : j = 0 \/ j = 1 \/ j = 2 := by omega
   have sm := ((sm6.trans sm7).trans sm8).trans sm9
   rcases hj with rfl | rfl | rfl
   ·rw [show gIx (.lst [.tuple (hd.map hD), .tuple (fu.map PyData.int), .tuple (fu.map PyData.int)]) (.int 0) s9 = .ok (.tup (hd.map hD)) s9 from il0]
    walk_at "go"
    exact ⟨pl[i], hd, rfl, so1, fd9.le (by omega), sm⟩
   ·rw [show gIx (.lst [.tuple (hd.map hD), .tuple (fu.map PyData.int), .tuple (fu.map PyData.int)]) (.int 1) s9 = .ok (.tup (fu.map PyData.int)) s9 from il1]
    walk_at "go"
    exact ⟨pl[i], fu.map some, by rw [hfu]; rfl, so2, fd9.le (by omega), sm⟩
   ·rw [show gIx (.lst [.tuple (hd.map hD), .tuple (fu.map PyData.int), .tuple (fu.map PyData.int)]) (.int 2) s9 = .ok (.tup (fu.map PyData.int)) s9 from il2]
    walk_at "go"
    exact ⟨pl[i], fu.map some, by rw [hfu]; rfl, so2, fd9.le (by omega), sm⟩
structure InnJ (n c : Nat) (m : Mc) (scr T : D) (r : List D) (ρ : En) (s' : S) : Prop where
 ex : ∃ (p : Int) (h : Hd) (c' : Nat) (k u v : Option D), SdOk m p h /\ Fd s' n c' /\ c' + 30 * r.length <= c /\ ρ = [some scr, some (.ref n), k, some T, some (.da m.d), some (.da (stD p h)), u, v]
structure OutJ (n c : Nat) (scr : D) (r : List D) (ρ : En) (s' : S) : Prop where
 ex : ∃ (c' : Nat) (u1 u2 u3 u4 u5 u6 : Option D), Fd s' n c' /\ c' + 2000 * r.length <= c /\ ρ = [some scr, some (.ref n), u1, u2, u3, u4, u5, u6]
noncomputable def innB : FS := (fSeq (fIfS (fOrT (fNotT (fTru (fCall 2 F_law_right (fCons (fVar 4) (fCons (fVar 5) fNil))))) (fNotT (fTru (fCall 2 F_law_right (fCons (fVar 4) (fCons (fCall 2 F_law_any_stand (fCons (fVar 1) (fCons (fVar 4) fNil))) fNil)))))) (fRet (fC (.da (.bool false)))) fNext)
  (fSeq (fSet 7 (fCall 2 F_law_moves (fCons (fVar 4) (fCons (fVar 5) fNil))))
  (fSet 5 (fOp gIx (fOp gIx (fVar 7) (fCall 2 F_law_draw (fCons (fVar 1) (fCons (fCB gLen (fCons (fVar 7) fNil)) fNil)))) (fC (.da (.int 1)))))))
theorem inn_turn {n c : Nat} {m : Mc} {scr T d : D} {r : List D} {ρ : En} {s' : S} {Q : Fl -> S -> Prop} (hm : McOk m) (hb : m.b <= 2) (hc : c < 2 ^ 39) (J : InnJ n c m scr T (d :: r) ρ s') : ∃ ρ1, setD (.nm 6) d ρ = some ρ1 /\ (innB ρ1 s').W (flW (InnJ n c m scr T r) Q) := by
 obtain ⟨p, h, c', k, u, v, sd, fd, hcc, rfl⟩ := J.ex
 rw [List.length_cons] at hcc
 refine ⟨[some scr, some (.ref n), k, some T, some (.da m.d), some (.da (stD p h)), some d, v], rfl, ?_⟩
 have hl : h.length <= 1000 := by rw [sd.l]; exact hm.b
 have hst : ∀ st ∈ m.sts, StOk h.length st := fun st z => by rw [sd.l]; exact hm.st st z
 obtain ⟨o1, o2, o3⟩ := mv_ok hm sd
 have w1 := fun s => (⟨right_ok (s := s) hm sd⟩ : DW _ _)
 have w2 := fun s c (fd : Fd s n c) (hc : c + 100 < 2 ^ 40) => any_ok (s := s) fd hm hb hc
 have w3 := fun s p h (sd : SdOk m p h) => (⟨right_ok (s := s) hm sd⟩ : DW _ _)
 have w4 := fun s => (⟨law_moves_ok (s := s) hst hm.n10 sd.p hl sd.o⟩ : DW _ _)
 unfold innB
 generalize F_law_right = FR at w1 w3 ⊢
 generalize F_law_any_stand = FA1 at w2 ⊢
 generalize F_law_moves = FM at w4 ⊢
 walk_at "go"
 refine (w1 _).mono fun d1 s1 q => ?_
 obtain ⟨e, x1⟩ := q
 rw [e]; clear e
 walk_at "go"
 refine (w2 _ _ (fd.ext x1) (by omega)).mono fun d2 s2 q => ?_
 obtain ⟨p2, h2, e, sd2, fd2, sm2⟩ := q
 rw [e]; clear e
 walk_at "go"
 refine (w3 _ _ _ sd2).mono fun d3 s3 q => ?_
 obtain ⟨e, x3⟩ := q
 rw [e]; clear e
 walk_at "go"
 refine (w4 _).mono fun d4 s4 q => ?_
 obtain ⟨e, x4⟩ := q
 rw [e]; clear e
 walk_at "go"
 refine R.W_mono (draw_ok ((fd2.ext x3).ext x4) (by omega) (by omega) (by omega)) fun d5 s5 q => ?_
 obtain ⟨i, e, i0, i1, fd5, sm5⟩ := q
 rw [e]; clear e
 obtain ⟨i, rfl⟩ : ∃ j : Nat, i = (j : Int) := ⟨i.toNat, by omega⟩
 have hi : i < (mv m.sts p h).length := by omega
 obtain ⟨mo, p6, h6, ek, sd6, _⟩ := (o1 _ (List.getElem_mem hi)).ex
 walk_at "go"
 rw [gIx_lst (p := (mv m.sts p h)[i]) (List.getElem?_eq_getElem hi), ek]
 walk_at "go"
 exact ⟨p6, h6, c' + 20 + 1, _, _, _, sd6, fd5, by omega, rfl⟩
noncomputable def outB : FS := (fSeq (fSet 3 (fOp (gAdd false) (fC (.da (.int 1))) (fCall 2 F_law_draw (fCons (fVar 1) (fCons (fC (.da (.int 3))) fNil)))))
  (fSeq (fSet 4 (fCall 4 F_law_machine (fCons (fVar 1) (fCons (fVar 3) (fCons (fCall 2 F_law_names (fCons (fVar 1) (fCons (fCall 2 F_law_draw (fCons (fVar 1) (fCons (fC (.da (.int 6))) fNil))) fNil))) (fCons (fC (.da (.int 5))) fNil))))))
  (fSeq (fSet 5 (fOp gIx (fVar 4) (fC (.da (.int 3)))))
  (fFor (fRng (fCons (fC (.da (.int 4))) fNil)) (.nm 6) innB))))
theorem out_turn {n c : Nat} {scr d : D} {r : List D} {ρ : En} {s' : S} {Q : Fl -> S -> Prop} (hc : c < 2 ^ 38) (J : OutJ n c scr (d :: r) ρ s') : ∃ ρ1, setD (.nm 2) d ρ = some ρ1 /\ (outB ρ1 s').W (flW (OutJ n c scr r) Q) := by
 obtain ⟨c', u1, u2, u3, u4, u5, u6, fd, hcc, rfl⟩ := J.ex
 rw [List.length_cons] at hcc
 refine ⟨[some scr, some (.ref n), some d, u2, u3, u4, u5, u6], rfl, ?_⟩
 have w1 := fun s c k (fd : Fd s n c) (hk : k <= 9) (hc : c + 2 < 2 ^ 40) => names_ok (k := k) fd hk hc
 have w2 := fun s c T (ps : List Str) (fd : Fd s n c) (h0 : 0 < T) (hT : T <= 3) (hp) (h5) hc => machine_ok (s := s) (n := n) (c := c) (T := T) (ps := ps) fd h0 hT hp h5 hc
 unfold outB
 generalize F_law_names = FN at w1 ⊢
 generalize F_law_machine = FM at w2 ⊢
 walk_at "go"
 refine R.W_mono (draw_ok fd (by decide) (by decide) (by omega)) fun d1 s1 q => ?_
 obtain ⟨i, e, i0, i1, fd1, sm1⟩ := q
 rw [e]; clear e
 obtain ⟨i, rfl⟩ : ∃ j : Nat, i = (j : Int) := ⟨i.toNat, by omega⟩
 walk_at "go"
 refine R.W_mono (draw_ok fd1 (by decide) (by decide) (by omega)) fun d2 s2 q => ?_
 obtain ⟨k, e, k0, k1, fd2, sm2⟩ := q
 rw [e]; clear e
 obtain ⟨k, rfl⟩ : ∃ j : Nat, k = (j : Int) := ⟨k.toNat, by omega⟩
 walk_at "go"
 refine (w1 _ _ k fd2 (by omega) (by omega)).mono fun d3 s3 q => ?_
 obtain ⟨ps, e, hl, hps, fd3, sm3⟩ := q
 rw [e]; clear e
 walk_at "go"
 rw [show (1 : Int) + (i : Int) = ((1 + i : Nat) : Int) by omega]
 refine (w2 _ _ (1 + i) ps fd3 (by omega) (by omega) hps (by omega) (by omega)).mono fun d4 s4 q => ?_
 obtain ⟨m, e, hm, hmn, hb, fd4, sm4⟩ := q
 rw [e]; clear e
 walk_at "go"
 rw [show gIx (.da m.d) (.int 3) s4 = .ok (.da (stD m.p m.h)) s4 from it3]
 walk_at "go"
 rw [rng_ok (by decide) (by decide)]
 walk_at "go"
 refine loop_inv (InnJ n (c' + 1200) m scr (.int ((1 + i : Nat) : Int))) ?_ ?_ _ _ _ ⟨m.p, m.h, _, _, _, _, ⟨hm.p, hm.h, hm.ho⟩, fd4, by rw [rng_len]; show _ + 30 * 4 <= _; omega, rfl⟩
 ·intro d r ρ s J
  exact inn_turn hm hb (by omega) J
 ·rintro ρ s5 ⟨p, h, c5, _, _, _, _, fd5, hc5, rfl⟩
  simp only [List.length_nil] at hc5
  exact ⟨c5, _, _, _, _, _, _, fd5, by omega, rfl⟩
theorem law_true (ns : List Int) : (Flaw [.frz (ns.map PyData.int)] []).W fun d _ => d = .bl true := by
 rw [elaw]; unfold Blaw
 have w1 := fun s => (⟨tape_ok (s := s) (xs := ns)⟩ : DW _ _)
 generalize F_law_tape = FT at w1 ⊢
 walk_at "go"
 refine (w1 _).mono fun d1 s1 q => ?_
 obtain ⟨e, fd, _⟩ := q
 rw [e]; clear e
 walk_at "go"
 rw [rng_ok (by decide) (by decide)]
 walk_at "go"
 show (loopF (.nm 2) outB _ _ _ _).W _
 refine loop_inv (OutJ 0 10000 (.frz (ns.map PyData.int))) ?_ ?_ _ _ _ ⟨0, _, _, _, _, _, _, fd, by rw [rng_len]; show 0 + 2000 * 4 <= _; omega, rfl⟩
 ·intro d r ρ s J
  exact out_turn (by decide) J
 ·rintro ρ s5 ⟨c5, _, _, _, _, _, _, _, _, rfl⟩
  walk_at "go"
  try rfl
end Ln
namespace Ln
open PySem L2 PF
section
variable {P : Program} {w : World} {K : PySem.W.Frag} {mg : Str -> Option Value} {base : Heap}
theorem fnlaw {f : Addr} {fd : FuncData} (F : Fun K "law" "law" s_law f fd) (T : Txt0 K mg) : FnOk P w K mg base CX0 10 f fd ["_law_script"] (spF K 1 Flaw) := by
 have c_law_tape := ok_law_tape (P := P) (w := w) (base := base) T
 have c_law_draw := ok_law_draw (P := P) (w := w) (base := base) T
 have c_law_names := ok_law_names (P := P) (w := w) (base := base) T
 have c_law_machine := ok_law_machine (P := P) (w := w) (base := base) T
 have c_law_moves := ok_law_moves (P := P) (w := w) (base := base) T
 have c_law_right := ok_law_right (P := P) (w := w) (base := base) T
 have c_law_any_stand := ok_law_any_stand (P := P) (w := w) (base := base) T
 exact fnF (k := 9) F sclaw rfl rfl (fun f cdv A outer s H E hr =>
   (rss_cons (rs_set (i := 1) sclaw.nd rfl (Or.inl rfl) (re_c c_law_tape (hr.mono (by decide)) (ra_cons (re_var 0) ra_nil)))
   (rss_cons (rs_for rfl (ri_rng T.n_range (ra_cons re_int ra_nil)) (rg_name (i := 2) sclaw.nd rfl (Or.inl rfl)) (rss_cons (rs_set (i := 3) sclaw.nd rfl (Or.inl rfl) (re_op (o_add false) re_int (re_c c_law_draw (hr.mono (by decide)) (ra_cons (re_var 1) (ra_cons re_int ra_nil)))))
   (rss_cons (rs_set (i := 4) sclaw.nd rfl (Or.inl rfl) (re_c c_law_machine (hr.mono (by decide)) (ra_cons (re_var 1) (ra_cons (re_var 3) (ra_cons (re_c c_law_names (hr.mono (by decide)) (ra_cons (re_var 1) (ra_cons (re_c c_law_draw (hr.mono (by decide)) (ra_cons (re_var 1) (ra_cons re_int ra_nil))) ra_nil))) (ra_cons re_int ra_nil))))))
   (rss_cons (rs_set (i := 5) sclaw.nd rfl (Or.inl rfl) (re_ix (re_var 4) re_int))
   (rss_one (rs_for rfl (ri_rng T.n_range (ra_cons re_int ra_nil)) (rg_name (i := 6) sclaw.nd rfl (Or.inl rfl)) (rss_cons (rs_if (RW.rt (rw_or (rt_not (rt_tru (re_c c_law_right (hr.mono (by decide)) (ra_cons (re_var 4) (ra_cons (re_var 5) ra_nil))))) (rw_or1 (rt_not (rt_tru (re_c c_law_right (hr.mono (by decide)) (ra_cons (re_var 4) (ra_cons (re_c c_law_any_stand (hr.mono (by decide)) (ra_cons (re_var 1) (ra_cons (re_var 4) ra_nil))) ra_nil)))))))) (rss_one (rs_ret re_bl)) rss_nil)
   (rss_cons (rs_set (i := 7) sclaw.nd rfl (Or.inl rfl) (re_c c_law_moves (hr.mono (by decide)) (ra_cons (re_var 4) (ra_cons (re_var 5) ra_nil))))
   (rss_one (rs_set (i := 5) sclaw.nd rfl (Or.inl rfl) (re_ix (re_ix (re_var 7) (re_c c_law_draw (hr.mono (by decide)) (ra_cons (re_var 1) (ra_cons (re_cb c_len T.n_len b_len (ra_cons (re_var 7) ra_nil)) ra_nil)))) re_int)))))))))))
   (rss_one (rs_ret re_bl)))))
end
end Ln
namespace Ln
open PySem L2 PF
theorem has_mk {K : PySem.W.Frag} {h : Heap} {mg : Str -> Option Value} (X : K.In h) (G : h.Ns mainGlobals mg) {x : Str} {st : Stmt} {ps : List Str} {f : Addr} {od an : Option Addr} {sl : Array (Option Value)} {oc kV dc pm cd ct : Value}
  (a : PySem.W.nsIn K mainGlobals x = some (some (.ref f))) (l : K.lookup f = some ⟨oc, od, .func (PySem.W.fnOf x x (defArgs st) (defBody st) (defScope st) .none kV dc pm an cd ct), sl⟩) (c : PySem.W.codeIn K cd x = true) (k : PySem.W.keepIn K (.ref f) = true)
  (b : ∀ (kV doc pm : Value) (an : Option Addr) (cdv ct : Value) (us : List Value), us.length = ps.length -> bindArgs (PySem.W.fnOf x x (defArgs st) (defBody st) (defScope st) .none kV doc pm an cdv ct) ⟨us, []⟩ = pure (ps.zip us)) : Has K mg x st ps :=
 ⟨f, _, fun_mk (st := st) l c k, PySem.W.mg_of X G a, (fun_mk (st := st) l c k).binds b⟩
theorem all_mk {l : PySem.W.OpenLaw} {w : World} {K : PySem.W.Frag} {h : Heap} {mg : Str -> Option Value} {fa f0 f1 f2 f3 f4 f5 f6 f7 f8 f9 f10 f11 f12 f13 f14 f15 f16 f17 : Addr} {od0 an0 od1 an1 od2 an2 od3 an3 od4 an4 od5 an5 od6 an6 od7 an7 od8 an8 od9 an9 od10 an10 od11 an11 od12 an12 od13 an13 od14 an14 od15 an15 od16 an16 od17 an17 : Option Addr} {sl0 sl1 sl2 sl3 sl4 sl5 sl6 sl7 sl8 sl9 sl10 sl11 sl12 sl13 sl14 sl15 sl16 sl17 : Array (Option Value)} {oc0 kV0 dc0 pm0 cd0 ct0 oc1 kV1 dc1 pm1 cd1 ct1 oc2 kV2 dc2 pm2 cd2 ct2 oc3 kV3 dc3 pm3 cd3 ct3 oc4 kV4 dc4 pm4 cd4 ct4 oc5 kV5 dc5 pm5 cd5 ct5 oc6 kV6 dc6 pm6 cd6 ct6 oc7 kV7 dc7 pm7 cd7 ct7 oc8 kV8 dc8 pm8 cd8 ct8 oc9 kV9 dc9 pm9 cd9 ct9 oc10 kV10 dc10 pm10 cd10 ct10 oc11 kV11 dc11 pm11 cd11 ct11 oc12 kV12 dc12 pm12 cd12 ct12 oc13 kV13 dc13 pm13 cd13 ct13 oc14 kV14 dc14 pm14 cd14 ct14 oc15 kV15 dc15 pm15 cd15 ct15 oc16 kV16 dc16 pm16 cd16 ct16 oc17 kV17 dc17 pm17 cd17 ct17 : Value} (X : K.In h) (G : h.Ns mainGlobals mg) (hfa : mg "law" = some (.ref fa))
  (a0 : PySem.W.nsIn K mainGlobals "moves_from" = some (some (.ref f0))) (l0 : K.lookup f0 = some ⟨oc0, od0, .func (PySem.W.fnOf "moves_from" "moves_from" (defArgs s_moves_from) (defBody s_moves_from) (defScope s_moves_from) .none kV0 dc0 pm0 an0 cd0 ct0), sl0⟩) (c0 : PySem.W.codeIn K cd0 "moves_from" = true) (k0 : PySem.W.keepIn K (.ref f0) = true)
  (a1 : PySem.W.nsIn K mainGlobals "things_for" = some (some (.ref f1))) (l1 : K.lookup f1 = some ⟨oc1, od1, .func (PySem.W.fnOf "things_for" "things_for" (defArgs s_things_for) (defBody s_things_for) (defScope s_things_for) .none kV1 dc1 pm1 an1 cd1 ct1), sl1⟩) (c1 : PySem.W.codeIn K cd1 "things_for" = true) (k1 : PySem.W.keepIn K (.ref f1) = true)
  (a2 : PySem.W.nsIn K mainGlobals "doings" = some (some (.ref f2))) (l2 : K.lookup f2 = some ⟨oc2, od2, .func (PySem.W.fnOf "doings" "doings" (defArgs s_doings) (defBody s_doings) (defScope s_doings) .none kV2 dc2 pm2 an2 cd2 ct2), sl2⟩) (c2 : PySem.W.codeIn K cd2 "doings" = true) (k2 : PySem.W.keepIn K (.ref f2) = true)
  (a3 : PySem.W.nsIn K mainGlobals "moment_of" = some (some (.ref f3))) (l3 : K.lookup f3 = some ⟨oc3, od3, .func (PySem.W.fnOf "moment_of" "moment_of" (defArgs s_moment_of) (defBody s_moment_of) (defScope s_moment_of) .none kV3 dc3 pm3 an3 cd3 ct3), sl3⟩) (c3 : PySem.W.codeIn K cd3 "moment_of" = true) (k3 : PySem.W.keepIn K (.ref f3) = true)
  (a4 : PySem.W.nsIn K mainGlobals "stand_by" = some (some (.ref f4))) (l4 : K.lookup f4 = some ⟨oc4, od4, .func (PySem.W.fnOf "stand_by" "stand_by" (defArgs s_stand_by) (defBody s_stand_by) (defScope s_stand_by) .none kV4 dc4 pm4 an4 cd4 ct4), sl4⟩) (c4 : PySem.W.codeIn K cd4 "stand_by" = true) (k4 : PySem.W.keepIn K (.ref f4) = true)
  (a5 : PySem.W.nsIn K mainGlobals "moves_by" = some (some (.ref f5))) (l5 : K.lookup f5 = some ⟨oc5, od5, .func (PySem.W.fnOf "moves_by" "moves_by" (defArgs s_moves_by) (defBody s_moves_by) (defScope s_moves_by) .none kV5 dc5 pm5 an5 cd5 ct5), sl5⟩) (c5 : PySem.W.codeIn K cd5 "moves_by" = true) (k5 : PySem.W.keepIn K (.ref f5) = true)
  (a6 : PySem.W.nsIn K mainGlobals "_law_tape" = some (some (.ref f6))) (l6 : K.lookup f6 = some ⟨oc6, od6, .func (PySem.W.fnOf "_law_tape" "_law_tape" (defArgs s__law_tape) (defBody s__law_tape) (defScope s__law_tape) .none kV6 dc6 pm6 an6 cd6 ct6), sl6⟩) (c6 : PySem.W.codeIn K cd6 "_law_tape" = true) (k6 : PySem.W.keepIn K (.ref f6) = true)
  (a7 : PySem.W.nsIn K mainGlobals "_law_draw" = some (some (.ref f7))) (l7 : K.lookup f7 = some ⟨oc7, od7, .func (PySem.W.fnOf "_law_draw" "_law_draw" (defArgs s__law_draw) (defBody s__law_draw) (defScope s__law_draw) .none kV7 dc7 pm7 an7 cd7 ct7), sl7⟩) (c7 : PySem.W.codeIn K cd7 "_law_draw" = true) (k7 : PySem.W.keepIn K (.ref f7) = true)
  (a8 : PySem.W.nsIn K mainGlobals "_law_names" = some (some (.ref f8))) (l8 : K.lookup f8 = some ⟨oc8, od8, .func (PySem.W.fnOf "_law_names" "_law_names" (defArgs s__law_names) (defBody s__law_names) (defScope s__law_names) .none kV8 dc8 pm8 an8 cd8 ct8), sl8⟩) (c8 : PySem.W.codeIn K cd8 "_law_names" = true) (k8 : PySem.W.keepIn K (.ref f8) = true)
  (a9 : PySem.W.nsIn K mainGlobals "_law_told" = some (some (.ref f9))) (l9 : K.lookup f9 = some ⟨oc9, od9, .func (PySem.W.fnOf "_law_told" "_law_told" (defArgs s__law_told) (defBody s__law_told) (defScope s__law_told) .none kV9 dc9 pm9 an9 cd9 ct9), sl9⟩) (c9 : PySem.W.codeIn K cd9 "_law_told" = true) (k9 : PySem.W.keepIn K (.ref f9) = true)
  (a10 : PySem.W.nsIn K mainGlobals "_law_step" = some (some (.ref f10))) (l10 : K.lookup f10 = some ⟨oc10, od10, .func (PySem.W.fnOf "_law_step" "_law_step" (defArgs s__law_step) (defBody s__law_step) (defScope s__law_step) .none kV10 dc10 pm10 an10 cd10 ct10), sl10⟩) (c10 : PySem.W.codeIn K cd10 "_law_step" = true) (k10 : PySem.W.keepIn K (.ref f10) = true)
  (a11 : PySem.W.nsIn K mainGlobals "_law_machine" = some (some (.ref f11))) (l11 : K.lookup f11 = some ⟨oc11, od11, .func (PySem.W.fnOf "_law_machine" "_law_machine" (defArgs s__law_machine) (defBody s__law_machine) (defScope s__law_machine) .none kV11 dc11 pm11 an11 cd11 ct11), sl11⟩) (c11 : PySem.W.codeIn K cd11 "_law_machine" = true) (k11 : PySem.W.keepIn K (.ref f11) = true)
  (a12 : PySem.W.nsIn K mainGlobals "_law_doings" = some (some (.ref f12))) (l12 : K.lookup f12 = some ⟨oc12, od12, .func (PySem.W.fnOf "_law_doings" "_law_doings" (defArgs s__law_doings) (defBody s__law_doings) (defScope s__law_doings) .none kV12 dc12 pm12 an12 cd12 ct12), sl12⟩) (c12 : PySem.W.codeIn K cd12 "_law_doings" = true) (k12 : PySem.W.keepIn K (.ref f12) = true)
  (a13 : PySem.W.nsIn K mainGlobals "_law_done" = some (some (.ref f13))) (l13 : K.lookup f13 = some ⟨oc13, od13, .func (PySem.W.fnOf "_law_done" "_law_done" (defArgs s__law_done) (defBody s__law_done) (defScope s__law_done) .none kV13 dc13 pm13 an13 cd13 ct13), sl13⟩) (c13 : PySem.W.codeIn K cd13 "_law_done" = true) (k13 : PySem.W.keepIn K (.ref f13) = true)
  (a14 : PySem.W.nsIn K mainGlobals "_law_moves" = some (some (.ref f14))) (l14 : K.lookup f14 = some ⟨oc14, od14, .func (PySem.W.fnOf "_law_moves" "_law_moves" (defArgs s__law_moves) (defBody s__law_moves) (defScope s__law_moves) .none kV14 dc14 pm14 an14 cd14 ct14), sl14⟩) (c14 : PySem.W.codeIn K cd14 "_law_moves" = true) (k14 : PySem.W.keepIn K (.ref f14) = true)
  (a15 : PySem.W.nsIn K mainGlobals "_law_right" = some (some (.ref f15))) (l15 : K.lookup f15 = some ⟨oc15, od15, .func (PySem.W.fnOf "_law_right" "_law_right" (defArgs s__law_right) (defBody s__law_right) (defScope s__law_right) .none kV15 dc15 pm15 an15 cd15 ct15), sl15⟩) (c15 : PySem.W.codeIn K cd15 "_law_right" = true) (k15 : PySem.W.keepIn K (.ref f15) = true)
  (a16 : PySem.W.nsIn K mainGlobals "_law_any_stand" = some (some (.ref f16))) (l16 : K.lookup f16 = some ⟨oc16, od16, .func (PySem.W.fnOf "_law_any_stand" "_law_any_stand" (defArgs s__law_any_stand) (defBody s__law_any_stand) (defScope s__law_any_stand) .none kV16 dc16 pm16 an16 cd16 ct16), sl16⟩) (c16 : PySem.W.codeIn K cd16 "_law_any_stand" = true) (k16 : PySem.W.keepIn K (.ref f16) = true)
  (a17 : PySem.W.nsIn K mainGlobals "law" = some (some (.ref f17))) (l17 : K.lookup f17 = some ⟨oc17, od17, .func (PySem.W.fnOf "law" "law" (defArgs s_law) (defBody s_law) (defScope s_law) .none kV17 dc17 pm17 an17 cd17 ct17), sl17⟩) (c17 : PySem.W.codeIn K cd17 "law" = true) (k17 : PySem.W.keepIn K (.ref f17) = true)
  (z0 : PySem.W.nsIn K mainGlobals "len" = some none)
  (z1 : PySem.W.nsIn K mainGlobals "repr" = some none)
  (z2 : PySem.W.nsIn K mainGlobals "sorted" = some none)
  (z3 : PySem.W.nsIn K mainGlobals "list" = some none)
  (z4 : PySem.W.nsIn K mainGlobals "tuple" = some none)
  (z5 : PySem.W.nsIn K mainGlobals "range" = some none)
  (z6 : PySem.W.nsIn K mainGlobals "isinstance" = some none)
  (z7 : PySem.W.nsIn K mainGlobals "zip" = some none) :
  ∃ fd : FuncData, (∀ (s : Shared) (v : Value), BindsTo s fd ⟨[v], []⟩ [("_law_script", v)]) /\ ∀ base : Heap, K.In base -> base.Ns mainGlobals mg -> FnOk l.prog w K mg base CX0 10 fa fd ["_law_script"] (spLaw K) := by
 have e := hfa.symm.trans (PySem.W.mg_of X G a17)
 cases e
 have T : Txt0 K mg := ⟨has_mk X G a0 l0 c0 k0 (fun _ _ _ _ _ _ us hl => match us, hl with | [_, _], _ => rfl),
  has_mk X G a1 l1 c1 k1 (fun _ _ _ _ _ _ us hl => match us, hl with | [_, _, _], _ => rfl),
  has_mk X G a2 l2 c2 k2 (fun _ _ _ _ _ _ us hl => match us, hl with | [_, _, _], _ => rfl),
  has_mk X G a3 l3 c3 k3 (fun _ _ _ _ _ _ us hl => match us, hl with | [_, _], _ => rfl),
  has_mk X G a4 l4 c4 k4 (fun _ _ _ _ _ _ us hl => match us, hl with | [_, _, _], _ => rfl),
  has_mk X G a5 l5 c5 k5 (fun _ _ _ _ _ _ us hl => match us, hl with | [_, _], _ => rfl),
  has_mk X G a6 l6 c6 k6 (fun _ _ _ _ _ _ us hl => match us, hl with | [_], _ => rfl),
  has_mk X G a7 l7 c7 k7 (fun _ _ _ _ _ _ us hl => match us, hl with | [_, _], _ => rfl),
  has_mk X G a8 l8 c8 k8 (fun _ _ _ _ _ _ us hl => match us, hl with | [_, _], _ => rfl),
  has_mk X G a9 l9 c9 k9 (fun _ _ _ _ _ _ us hl => match us, hl with | [_, _], _ => rfl),
  has_mk X G a10 l10 c10 k10 (fun _ _ _ _ _ _ us hl => match us, hl with | [_, _, _, _, _], _ => rfl),
  has_mk X G a11 l11 c11 k11 (fun _ _ _ _ _ _ us hl => match us, hl with | [_, _, _, _], _ => rfl),
  has_mk X G a12 l12 c12 k12 (fun _ _ _ _ _ _ us hl => match us, hl with | [_, _], _ => rfl),
  has_mk X G a13 l13 c13 k13 (fun _ _ _ _ _ _ us hl => match us, hl with | [_, _, _], _ => rfl),
  has_mk X G a14 l14 c14 k14 (fun _ _ _ _ _ _ us hl => match us, hl with | [_, _], _ => rfl),
  has_mk X G a15 l15 c15 k15 (fun _ _ _ _ _ _ us hl => match us, hl with | [_, _], _ => rfl),
  has_mk X G a16 l16 c16 k16 (fun _ _ _ _ _ _ us hl => match us, hl with | [_, _], _ => rfl),
  has_mk X G a17 l17 c17 k17 (fun _ _ _ _ _ _ us hl => match us, hl with | [_], _ => rfl),
  PySem.W.mg_none_of X G z0,
  PySem.W.mg_none_of X G z1,
  PySem.W.mg_none_of X G z2,
  PySem.W.mg_none_of X G z3,
  PySem.W.mg_none_of X G z4,
  PySem.W.mg_none_of X G z5,
  PySem.W.mg_none_of X G z6,
  PySem.W.mg_none_of X G z7⟩
 refine ⟨PySem.W.fnOf "law" "law" (defArgs s_law) (defBody s_law) (defScope s_law) .none kV17 dc17 pm17 an17 cd17 ct17, fun s v => .of_eq rfl, fun base _ _ => ?_⟩
 exact law_of (fnlaw (fun_mk (st := s_law) l17 c17 k17) T) fun ns _ => law_true ns
theorem walk {l : PySem.W.OpenLaw} {q : Program} {loose : List Str} {XP : (Str -> Option Value) -> Heap -> Prop} {YP : World -> Heap -> Prop} {d : DefRec} {K : Params -> PySem.W.Frag} (hn : l.most = some 63) (hdf : d.params.defaults = [])
  (hY : ∀ (w : World) (h : Heap), YP w h -> (K w.params).In h)
  (F : ∀ (w : World) (mg : Str -> Option Value) (fa : Addr) (h : Heap), (K w.params).In h -> h.Ns mainGlobals mg -> mg d.name = some (.ref fa) ->
   ∃ fd : FuncData, (∀ (s : Shared) (u : Value), BindsTo s fd ⟨[u], []⟩ [("_law_script", u)]) /\ ∀ base : Heap, (K w.params).In base -> base.Ns mainGlobals mg -> FnOk l.prog w (K w.params) mg base CX0 10 fa fd ["_law_script"] (spLaw (K w.params))) :
  PySem.W.WalkO q loose XP YP l.row.toRowW d [] (fun f vs => PySem.call f vs) :=
 L2.walk_of (n := 63) (k := 10) (x := "_law_script") (CX := fun _ => CX0) (sp := fun w => spLaw (K w.params)) hn (by decide) hdf ⟨rfl, by decide, by decide, rfl⟩ hY F (fun _ _ a ns hl _ hS => ⟨a, ns, rfl, hS, hl, fun _ => rfl⟩) fun _ _ _ _ _ z => z
end Ln
open PySem PySem.W PyProof.Rows
set_option maxRecDepth 100000 in
set_option maxHeartbeats 0 in
theorem PySem.Challenge.cw_mannerports_k26_moves_told_holds : PySem.Challenge.rw_mannerports_k26_moves_told.Holds := by
 w_on; o_law; k_head; (case hw => w_witness2)
 k_fill
 refine Ln.walk (l := PySem.Challenge.rw_mannerports_k26_moves_told) rfl rfl (fun w h Y => PySem.W.kIn_of Y) ?F
 case F =>
  intro w mg fa h KX G hmg
  refine' Ln.all_mk KX G hmg ?a0 ?l0 ?c0 ?k0 ?a1 ?l1 ?c1 ?k1 ?a2 ?l2 ?c2 ?k2 ?a3 ?l3 ?c3 ?k3 ?a4 ?l4 ?c4 ?k4 ?a5 ?l5 ?c5 ?k5 ?a6 ?l6 ?c6 ?k6 ?a7 ?l7 ?c7 ?k7 ?a8 ?l8 ?c8 ?k8 ?a9 ?l9 ?c9 ?k9 ?a10 ?l10 ?c10 ?k10 ?a11 ?l11 ?c11 ?k11 ?a12 ?l12 ?c12 ?k12 ?a13 ?l13 ?c13 ?k13 ?a14 ?l14 ?c14 ?k14 ?a15 ?l15 ?c15 ?k15 ?a16 ?l16 ?c16 ?k16 ?a17 ?l17 ?c17 ?k17 ?z0 ?z1 ?z2 ?z3 ?z4 ?z5 ?z6 ?z7
  (case a0 => k_is)
  (case l0 => k_is)
  (case c0 => k_is)
  (case k0 => k_is)
  (case a1 => k_is)
  (case l1 => k_is)
  (case c1 => k_is)
  (case k1 => k_is)
  (case a2 => k_is)
  (case l2 => k_is)
  (case c2 => k_is)
  (case k2 => k_is)
  (case a3 => k_is)
  (case l3 => k_is)
  (case c3 => k_is)
  (case k3 => k_is)
  (case a4 => k_is)
  (case l4 => k_is)
  (case c4 => k_is)
  (case k4 => k_is)
  (case a5 => k_is)
  (case l5 => k_is)
  (case c5 => k_is)
  (case k5 => k_is)
  (case a6 => k_is)
  (case l6 => k_is)
  (case c6 => k_is)
  (case k6 => k_is)
  (case a7 => k_is)
  (case l7 => k_is)
  (case c7 => k_is)
  (case k7 => k_is)
  (case a8 => k_is)
  (case l8 => k_is)
  (case c8 => k_is)
  (case k8 => k_is)
  (case a9 => k_is)
  (case l9 => k_is)
  (case c9 => k_is)
  (case k9 => k_is)
  (case a10 => k_is)
  (case l10 => k_is)
  (case c10 => k_is)
  (case k10 => k_is)
  (case a11 => k_is)
  (case l11 => k_is)
  (case c11 => k_is)
  (case k11 => k_is)
  (case a12 => k_is)
  (case l12 => k_is)
  (case c12 => k_is)
  (case k12 => k_is)
  (case a13 => k_is)
  (case l13 => k_is)
  (case c13 => k_is)
  (case k13 => k_is)
  (case a14 => k_is)
  (case l14 => k_is)
  (case c14 => k_is)
  (case k14 => k_is)
  (case a15 => k_is)
  (case l15 => k_is)
  (case c15 => k_is)
  (case k15 => k_is)
  (case a16 => k_is)
  (case l16 => k_is)
  (case c16 => k_is)
  (case k16 => k_is)
  (case a17 => k_is)
  (case l17 => k_is)
  (case c17 => k_is)
  (case k17 => k_is)
  (case z0 => k_is)
  (case z1 => k_is)
  (case z2 => k_is)
  (case z3 => k_is)
  (case z4 => k_is)
  (case z5 => k_is)
  (case z6 => k_is)
  (case z7 => k_is)
