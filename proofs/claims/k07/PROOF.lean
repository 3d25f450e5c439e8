import PyProof.Rows.All
import Wide.All
import OpenK.AllK
import Wide.FinOn
import Lean
import PyProof.EqAt
import PyProof.EqKinds
import PyProof.TupleCall
import PyProof.NeKinds
import PyProof.Rows.SetFrom
import PyProof.WalksMore
import KE.KDictSum
import PyProof.AttrMissHeap
import PyProof.P3Eq
import PyProof.NeData
import PyProof.ConsumeWalk
import PyProof.ZipIter
import PyProof.Rows.TupAdd
import PyProof.Rows.IntBool
import PyProof.SliceStr2
import PyProof.StrBlockI
import KE.KTab
import KE.KSortAsk
import KE.KSortTup
import PyProof.TupleOfSeq
import PyProof.FString5
import PyProof.StrWalks
import PyProof.CallStr
import PyProof.Conv_int_bool
import PyProof.StrCalls
import PyProof.DictWalks
import PyProof.Rows.TupDisplay
import PyProof.DictTruth
import PyProof.ListMulAny
import PyProof.FactsAll.tuple_2
import PyProof.ListRange
import KE.KxMul
import PySem.Challenge.RW_mannerports_k07_what_parts_let
import KE.KTabLook
set_option Elab.async false
set_option linter.all false
set_option bootstrap.genMatcherCode false
set_option genSizeOfSpec false
set_option maxRecDepth 100000
set_option maxHeartbeats 4000001
namespace PF
open PySem PySem.Spec PySem.SeqAt --
mutual
noncomputable def plD : PyData -> Bool
 | .none => true
 | .int _ => true
 | .str _ => true
 | .tuple xs => plDs xs
 | _ => false
noncomputable def plDs : List PyData -> Bool
 | [] => true
 | x :: xs => plD x && plDs xs
end
theorem plD_tup {xs : List PyData} : plD (.tuple xs) = plDs xs := by simp only [plD]
theorem plDs_cons {x : PyData} {xs : List PyData} : plDs (x :: xs) = (plD x && plDs xs) := by simp only [plDs]
theorem plDs_all : ∀ xs : List PyData, plDs xs = xs.all plD
 | [] => by simp only [plDs, List.all_nil]
 | x :: r => by rw [plDs_cons, List.all_cons, plDs_all r]
theorem evt {xs ys : List PyData} : PyData.eqv (.tuple xs) (.tuple ys) = PyData.eqvAll xs ys := by simp only [PyData.eqv]
theorem evs {x y : PyData} {xs ys : List PyData} : PyData.eqvAll (x :: xs) (y :: ys) = (PyData.eqv x y && PyData.eqvAll xs ys) := by simp only [PyData.eqvAll]
mutual
theorem eqv_pl : ∀ a b : PyData, plD a = true -> plD b = true -> (PyData.eqv a b = true ↔ a = b)
 | .none, b, _, hb => by cases b <;> simp [plD] at hb <;> simp [PyData.eqv]
 | .int i, b, _, hb => by cases b <;> simp [plD] at hb <;> simp [PyData.eqv]
 | .str i, b, _, hb => by cases b <;> simp [plD] at hb <;> simp [PyData.eqv]
 | .tuple xs, .tuple ys, ha, hb => by
  rw [evt, eqvs_pl xs ys (by rw [← plD_tup]; exact ha) (by rw [← plD_tup]; exact hb)]
  simp
 | .tuple xs, .none, _, _ => by simp [PyData.eqv]
 | .tuple xs, .int _, _, _ => by simp [PyData.eqv]
 | .tuple xs, .str _, _, _ => by simp [PyData.eqv]
 | .tuple xs, .bool _, _, hb => by simp [plD] at hb
 | .tuple xs, .list _, _, hb => by simp [plD] at hb
 | .tuple xs, .dict _, _, hb => by simp [plD] at hb
 | .bool _, _, ha, _ => by simp [plD] at ha
 | .list _, _, ha, _ => by simp [plD] at ha
 | .dict _, _, ha, _ => by simp [plD] at ha
theorem eqvs_pl : ∀ xs ys : List PyData, plDs xs = true -> plDs ys = true -> (PyData.eqvAll xs ys = true ↔ xs = ys)
 | [], [], _, _ => by simp [PyData.eqvAll]
 | [], _ :: _, _, _ => by simp [PyData.eqvAll]
 | _ :: _, [], _, _ => by simp [PyData.eqvAll]
 | x :: xs, y :: ys, ha, hb => by
  rw [plDs_cons, Bool.and_eq_true] at ha hb
  rw [evs, Bool.and_eq_true, eqv_pl x y ha.1 hb.1, eqvs_pl xs ys ha.2 hb.2, List.cons.injEq]
end
theorem eqv_self {a : PyData} (h : plD a = true) : PyData.eqv a a = true := (eqv_pl a a h h).mpr rfl
mutual
noncomputable def hashD (w : World) : PyData -> Int
 | .none => 0xFCA86420
 | .int i => hashInt i
 | .str x => hashStr w x
 | .tuple xs => reduceHash (Builtin.Tuple.tupleHashOf (hashDs w xs))
 | _ => 0
noncomputable def hashDs (w : World) : List PyData -> List Int
 | [] => []
 | x :: xs => hashD w x :: hashDs w xs
end
mutual
noncomputable def drawsD : PyData -> Nat
 | .tuple xs => drawsDs xs + 1
 | _ => 1
noncomputable def drawsDs : List PyData -> Nat
 | [] => 0
 | x :: xs => drawsD x + drawsDs xs
end
theorem hashDs_map (w : World) : ∀ xs : List PyData, hashDs w xs = xs.map (hashD w)
 | [] => by simp only [hashDs, List.map_nil]
 | x :: r => by simp only [hashDs, List.map_cons, hashDs_map w r]
theorem drawsDs_app : ∀ xs ys : List PyData, drawsDs (xs ++ ys) = drawsDs xs + drawsDs ys
 | [], ys => by simp [drawsDs]
 | x :: r, ys => by simp only [List.cons_append, drawsDs, drawsDs_app r ys]; omega
theorem depth_mem : ∀ {xs : List PyData} {x : PyData}, x ∈ xs -> x.depth <= PyData.depthAll xs
 | [], x, h => by cases h
 | y :: r, x, h => by
  simp only [PyData.depthAll]
  (rcases List.mem_cons.mp h with rfl | h)
  ·omega
  ·have := depth_mem h; omega
section
variable {prog : Program} {w : World} --
theorem hash_none {A : Around} {E : Value -> Shared -> Prop} {s : Shared} {Q : Int -> Shared -> Prop} (h : Q 0xFCA86420 { s with toks := s.toks + 1 }) : wpAny (model prog w) A (pyHash .none) Q E s := by
 unfold pyHash
 have hv : [Value.none].any Value.onHeap = false := rfl
 refine wpAny_bind ?_
 (rw [cRoomFor, if_neg (by rw [hv]; exact Bool.false_ne_true)]; refine wpAny_pure ?_)
 refine wpAny_bind (wpAny_specialOf (typeIs_none s) F.slot_NoneType_hash.lookup ?_)
 show wpAny _ _ (if (some (Value.builtin "NoneType.__hash__") == some Value.none) = true then _ else _) Q E s
 (rw [if_neg (by rw [beq_builtin_none]; exact Bool.false_ne_true)])
 refine wpAny_bind (wpAny_specialOf (typeIs_none s) F.slot_NoneType_hash.lookup ?_)
 show wpAny _ _ (callSpecialIfBoundUnlessNone? .none "__hash__" _ >>= _) Q E s
 refine wpAny_bind (wpAny_callSpecialIfBoundUnlessNone?_slot (typeIs_none s) F.slot_NoneType_hash
  (wpAny_call_entry F.slot_NoneType_hash (typeIs_none s) F.entry_NoneType_hash
   (show wpAny _ _ (do ret (← mkInt 0xFCA86420)) _ _ s from wpAny_ret_mkInt ?_) (F.args_NoneType_hash_1 _)))
 show wpAny _ _ (if (decide (-(2 : Int) ^ 63 <= 0xFCA86420) && decide ((0xFCA86420 : Int) < 2 ^ 63)) = true then _ else _) Q E _
 rw [if_pos (by decide)]
 exact wpAny_pure h
mutual
theorem hash_ok : ∀ (d : PyData) {A : Around} {E : Value -> Shared -> Prop} {s : Shared} {v : Value} {bs : List Addr} {Q : Int -> Shared -> Prop}, plD d = true -> Reads s.heap v d bs -> A.units + d.depth < cLine -> Q (hashD w d) { s with toks := s.toks + drawsD d } -> wpAny (model prog w) A (pyHash v) Q E s
 | .none, A, E, s, v, bs, Q, _, r, _, h => by cases r; simp only [hashD, drawsD] at h; exact hash_none h
 | .int i, A, E, s, v, bs, Q, _, r, _, h => by cases r; simp only [hashD, drawsD] at h; exact wpAny_pyHash_int h
 | .str x, A, E, s, v, bs, Q, _, r, _, h => by cases r; simp only [hashD, drawsD] at h; exact wpAny_pyHash_str h
 | .tuple xs, A, E, s, v, bs, Q, hp, r, hu, h => by
  have ih := hashes_ok xs
  rw [plD_tup, plDs_all, List.all_eq_true] at hp
  (simp only [PyData.depth] at hu)
  cases r with
  | @tuple a o items n _ _ ho hc hd hi =>
  have hT : s.TypeIs (.ref a) "tuple" := ⟨o, ho, hc⟩
  unfold pyHash pyHashByItsType
  refine wpAny_bind (wpAny_cRoomFor_or (.inr (by omega)) ?_)
  (refine wpAny_bind (wpAny_specialOf hT F.slot_tuple_hash.lookup ?_))
  show wpAny _ _ (if (some (Value.builtin "tuple.__hash__") == some Value.none) = true then _ else _) Q E s --
  (rw [if_neg (by rw [beq_builtin_none]; exact Bool.false_ne_true)])
  (refine wpAny_bind (wpAny_specialOf hT F.slot_tuple_hash.lookup ?_))
  show wpAny _ _ (callSpecialIfBoundUnlessNone? (.ref a) "__hash__" _ >>= _) Q E s --
  (refine wpAny_bind (wpAny_callSpecialIfBoundUnlessNone?_slot hT F.slot_tuple_hash (wpAny_call_entry F.slot_tuple_hash hT F.entry_tuple_hash ?_ (F.args_tuple_hash_1 _))))
  show wpAny _ _ (Builtin.Tuple.tupleItemsOf (.ref a) >>= _) _ _ s --
  (refine wpAny_bind (wpAny_tupleItemsOf ho hd ?_))
  refine wpAny_bind ?_
  rw [← Array.forIn_toList]
  refine wpAny_forIn_list _
   (fun rest (b : Array Int) s' => ∃ done left cs, xs = done ++ left /\ ReadsAll s.heap rest left cs /\ b.toList = done.map (hashD w) /\ s' = { s with toks := s.toks + drawsDs done })
   _ ?_ ?_ _ _ ⟨[], xs, _, rfl, hi, rfl, rfl⟩
  ·rintro x rest b s' ⟨done, left, cs, e, hl, hb, rfl⟩
   cases hl with
   | @cons _ _ k ks' _ _ h1 hl' =>
    have hm : k ∈ xs := by rw [e]; simp
    have hdk := depth_mem hm
    have e1 : ∀ A : Around, A.in1.units <= A.units + 1 := fun A => by first | exact Nat.le_refl _ | (unfold Around.in1; simp)
    have e1A := e1 A
    refine wpAny_bind (ih k hm (s := { s with toks := s.toks + drawsDs done }) (hp k hm) h1 (by omega) ?_)
    first
     | exact wpAny_pure ⟨done ++ [k], ks', _, by rw [e]; simp, hl', by simp [hb], by simp [drawsDs_app, drawsDs, Nat.add_assoc]⟩
     | exact wpAny_bind (wpAny_pure (wpAny_pure ⟨done ++ [k], ks', _, by rw [e]; simp, hl', by simp [hb], by simp [drawsDs_app, drawsDs, Nat.add_assoc]⟩))
  ·rintro b s' ⟨done, left, cs, e, hl, hb, rfl⟩
   cases hl
   rw [List.append_nil] at e
   subst e
   show wpAny _ _ (retInt (Builtin.Tuple.tupleHashOf b.toList)) _ _ _ --
   rw [hb, ← hashDs_map]
   refine wpAny_ret_mkInt ?_
   show wpAny _ _ (if (decide (-(2 : Int) ^ 63 <= Builtin.Tuple.tupleHashOf (hashDs w xs)) && decide (Builtin.Tuple.tupleHashOf (hashDs w xs) < 2 ^ 63)) = true then _ else _) Q E _
   simp only [hashD, drawsD] at h
   unfold reduceHash at h
   by_cases hr : (decide (-(2 : Int) ^ 63 <= Builtin.Tuple.tupleHashOf (hashDs w xs)) && decide (Builtin.Tuple.tupleHashOf (hashDs w xs) < 2 ^ 63)) = true
   ·rw [if_pos hr]
    rw [if_pos hr] at h
    (exact wpAny_pure (by simpa [Nat.add_assoc] using h))
   ·rw [if_neg hr]
    rw [if_neg hr] at h
    (exact wpAny_bind (wpAny_rule (wpAny_pure (by simpa [Nat.add_assoc] using h))))
 | .bool _, _, _, _, _, _, _, hp, _, _, _ => by simp [plD] at hp
 | .list _, _, _, _, _, _, _, hp, _, _, _ => by simp [plD] at hp
 | .dict _, _, _, _, _, _, _, hp, _, _, _ => by simp [plD] at hp
theorem hashes_ok : ∀ (xs : List PyData), ∀ d ∈ xs, ∀ {A : Around} {E : Value -> Shared -> Prop} {s : Shared} {v : Value} {bs : List Addr} {Q : Int -> Shared -> Prop}, plD d = true -> Reads s.heap v d bs -> A.units + d.depth < cLine -> Q (hashD w d) { s with toks := s.toks + drawsD d } -> wpAny (model prog w) A (pyHash v) Q E s
 | [], d, m => by cases m
 | x :: r, d, m => by
  intro h1 h2 h3 h4
  rcases List.mem_cons.mp m with e | m
  ·rw [e] at h1 h2 h3 h4
   exact hash_ok x h1 h2 h3 h4
  ·exact hashes_ok r d m h1 h2 h3 h4
end
mutual
theorem quiet_ok : ∀ (d : PyData) {n : Nat} {A : Around} {E : Value -> Shared -> Prop} {s : Shared} {v : Value} {bs : List Addr} {Q : Bool -> Shared -> Prop}, plD d = true -> Reads s.heap v d bs -> d.depth <= n -> Q true s -> wpAny (model prog w) A (eqIsQuiet n v) Q E s
 | .none, n, A, E, s, v, bs, Q, _, r, _, h => by cases r; rw [eqIsQuiet_byValue n rfl]; exact wpAny_pure h
 | .int i, n, A, E, s, v, bs, Q, _, r, _, h => by cases r; rw [eqIsQuiet_byValue n rfl]; exact wpAny_pure h
 | .str x, n, A, E, s, v, bs, Q, _, r, _, h => by cases r; rw [eqIsQuiet_byValue n rfl]; exact wpAny_pure h
 | .tuple xs, n, A, E, s, v, bs, Q, hp, r, hu, h => by
  have ih := quiets_ok xs
  rw [plD_tup, plDs_all, List.all_eq_true] at hp
  (simp only [PyData.depth] at hu)
  obtain ⟨m, rfl⟩ : ∃ m, n = m + 1 := ⟨n - 1, by omega⟩
  cases r with
  | @tuple a o items n _ _ ho hc hd hi =>
  have hT : s.TypeIs (.ref a) "tuple" := ⟨o, ho, hc⟩
  unfold eqIsQuiet
  (refine wpAny_bind (wpAny_specialOf hT F.slot_tuple_eq.lookup ?_))
  show wpAny _ _ (isInstance (.ref a) (.type "tuple") >>= _) _ _ s --
  (refine wpAny_bind (wpAny_isInstance hT isSubtype_tuple_tuple ?_))
  (simp only [Bool.not_true, Bool.false_eq_true, if_false])
  (refine wpAny_bind (wpAny_seqItems ho hd ?_))
  refine wpAny_bind ?_
  show wpAny _ _ (forIn items _ _) _ _ s --
  rw [← Array.forIn_toList]
  refine wpAny_forIn_list _ (fun rest r s' => r.1 = none /\ s' = s /\ ∃ left cs, (∀ x ∈ left, x ∈ xs) /\ ReadsAll s.heap rest left cs) _ ?_ ?_ _ _ ⟨rfl, rfl, xs, _, fun _ m => m, hi⟩
  ·rintro v rest r s' ⟨hr, rfl, left, cs, sub, hl⟩
   cases hl with
   | @cons _ _ k ks' _ _ h1 hl' =>
    have hm := sub k List.mem_cons_self
    have hdk := depth_mem hm
    refine wpAny_bind (ih k hm (hp k hm) h1 (by omega) ?_)
    (simp only [Bool.not_true, Bool.false_eq_true, if_false])
    exact wpAny_pure ⟨rfl, rfl, ks', _, fun x m => sub x (List.mem_cons_of_mem _ m), hl'⟩
  ·rintro ⟨r1, r2⟩ s' ⟨hr, rfl, _⟩
   simp only at hr
   subst hr
   exact wpAny_pure h
 | .bool _, _, _, _, _, _, _, _, hp, _, _, _ => by simp [plD] at hp
 | .list _, _, _, _, _, _, _, _, hp, _, _, _ => by simp [plD] at hp
 | .dict _, _, _, _, _, _, _, _, hp, _, _, _ => by simp [plD] at hp
theorem quiets_ok : ∀ (xs : List PyData), ∀ d ∈ xs, ∀ {n : Nat} {A : Around} {E : Value -> Shared -> Prop} {s : Shared} {v : Value} {bs : List Addr} {Q : Bool -> Shared -> Prop}, plD d = true -> Reads s.heap v d bs -> d.depth <= n -> Q true s -> wpAny (model prog w) A (eqIsQuiet n v) Q E s
 | [], d, m => by cases m
 | x :: r, d, m => by
  intro h1 h2 h3 h4
  rcases List.mem_cons.mp m with e | m
  ·rw [e] at h1 h2 h3
   exact quiet_ok x h1 h2 h3 h4
  ·exact quiets_ok r d m h1 h2 h3 h4
end
mutual
theorem reads_but : ∀ (d : PyData) {h h' : Heap} {v : Value} {bs : List Addr} {a : Addr} {o : Obj} {es : Array DictEntry} {ep : Nat}, plD d = true -> Reads h v d bs -> h.get? a = some o -> o.data = .dict es ep -> Heap.SameBut a h h' -> Reads h' v d bs
 | .none, _, _, _, _, _, _, _, _, _, r, _, _, _ => by cases r; exact .none
 | .int i, _, _, _, _, _, _, _, _, _, r, _, _, _ => by cases r; exact .int _ _
 | .str x, _, _, _, _, _, _, _, _, _, r, _, _, _ => by cases r; exact .str _ _
 | .tuple xs, h, h', v, bs, a, o, es, ep, hp, r, ho, hd, hs => by
  rw [plD_tup] at hp
  cases r with
  | @tuple b ob items n _ _ h1 h2 h3 h4 =>
   have ne : b ≠ a := by
    rintro rfl
    rw [h1] at ho
    cases ho
    rw [hd] at h3; cases h3
   exact .tuple ((hs.2 b ne).trans h1) h2 h3 (readss_but xs hp h4 ho hd hs)
 | .bool _, _, _, _, _, _, _, _, _, hp, _, _, _, _ => by simp [plD] at hp
 | .list _, _, _, _, _, _, _, _, _, hp, _, _, _, _ => by simp [plD] at hp
 | .dict _, _, _, _, _, _, _, _, _, hp, _, _, _, _ => by simp [plD] at hp
theorem readss_but : ∀ (xs : List PyData) {h h' : Heap} {vs : List Value} {bs : List Addr} {a : Addr} {o : Obj} {es : Array DictEntry} {ep : Nat}, plDs xs = true -> ReadsAll h vs xs bs -> h.get? a = some o -> o.data = .dict es ep -> Heap.SameBut a h h' -> ReadsAll h' vs xs bs
 | [], _, _, _, _, _, _, _, _, _, r, _, _, _ => by cases r; exact .nil
 | x :: xs, _, _, _, _, _, _, _, _, hp, r, ho, hd, hs => by
  rw [plDs_cons, Bool.and_eq_true] at hp
  cases r with
  | cons r1 r2 => exact .cons (reads_but x hp.1 r1 ho hd hs) (readss_but xs hp.2 r2 ho hd hs)
end
noncomputable def keyOk (d : PyData) : Bool := plD d && d.canLay0 && decide (d.depth <= 8)
theorem keyOk_iff {d : PyData} : keyOk d = true ↔ plD d = true /\ d.canLay0 = true /\ d.depth <= 8 := by
 unfold keyOk
 simp only [Bool.and_eq_true, decide_eq_true_eq, and_assoc]
noncomputable instance : DecidableEq PyData := fun a b => Classical.propDecidable (a = b)
noncomputable def dataKind (prog : Program) (w : World) : HeapKind prog w PyData where
 is h k a := keyOk k = true /\ ∃ bs, Reads h (.ref a) k bs
 hash := hashD w
 draws := drawsD
 room A := A.units + 10 < cLine
 inj := by
  rintro h a x y ⟨k1, b1, r1⟩ ⟨k2, b2, r2⟩
  exact Reads.unique x y _ _ _ (keyOk_iff.mp k1).2.1 r1 r2
 keeps := by
  rintro h h' k a d o es ep ⟨k1, b1, r1⟩ ho hd hs
  exact ⟨k1, b1, reads_but k (keyOk_iff.mp k1).1 r1 ho hd hs⟩
 pyHash := by
  rintro A E s k a Q hu ⟨k1, b1, r1⟩ h
  obtain ⟨p, c, d⟩ := keyOk_iff.mp k1
  exact hash_ok k p r1 (by omega) h
 eqBool := by
  rintro A E s x y a b Q hu ⟨k1, b1, r1⟩ ⟨k2, b2, r2⟩ h
  obtain ⟨p, c, d⟩ := keyOk_iff.mp k1
  obtain ⟨p', c', d'⟩ := keyOk_iff.mp k2
  refine eqAt_reads x y A s _ _ _ _ r1 r2 c c' (by omega) prog w E Q ?_
  have : PyData.eqv x y = decide (x = y) := by
   (rw [Bool.eq_iff_iff, decide_eq_true_eq])
   exact eqv_pl x y p p'
  rw [this]; exact h
 quiet := by
  rintro A E s k a Q ⟨k1, b1, r1⟩ h
  obtain ⟨p, c, d⟩ := keyOk_iff.mp k1
  exact quiet_ok k p r1 (by omega) h
end
end PF
namespace L2
open PySem PySem.Spec PyProof.Rows
noncomputable abbrev Key := Sum Int Str
noncomputable def keyIs : Key -> Value -> Bool
 | .inl k, v => Value.isInt k v
 | .inr x, v => Value.isStrOf x v
noncomputable def keyH (w : World) : Key -> Int
 | .inl k => hashInt k
 | .inr x => hashStr w x
theorem keyIs_shape : ∀ {k : Key} {v : Value}, keyIs k v = true -> (∃ i t, k = Sum.inl i /\ v = Value.int i t) \/ (∃ x t, k = Sum.inr x /\ v = Value.str x t)
 | .inl i, v, h => by
  obtain ⟨t, e⟩ := Value.isInt_shape (k := i) (v := v) h
  exact .inl ⟨i, t, rfl, e⟩
 | .inr x, v, h => by
  obtain ⟨t, e⟩ := Value.isStrOf_shape (x := x) (v := v) h
  exact .inr ⟨x, t, rfl, e⟩
theorem keyIs_int (i : Int) (t : Tok) : keyIs (.inl i) (.int i t) = true := by simp [keyIs, Value.isInt]
theorem keyIs_str (x : Str) (t : Tok) : keyIs (.inr x) (.str x t) = true := by simp [keyIs, Value.isStrOf]
theorem key_ll (a b : Int) : decide ((Sum.inl a : Key) = Sum.inl b) = (a == b) := by
 by_cases e : a = b
 ·subst e; simp
 ·have h : ¬ (Sum.inl a : Key) = Sum.inl b := fun q => e (Sum.inl.inj q)
  rw [decide_eq_false h]
  exact (beq_eq_false_iff_ne.mpr e).symm
theorem key_rr (a b : Str) : decide ((Sum.inr a : Key) = Sum.inr b) = decide (a = b) := by
 by_cases e : a = b
 ·subst e; simp
 ·have h : ¬ (Sum.inr a : Key) = Sum.inr b := fun q => e (Sum.inr.inj q)
  rw [decide_eq_false h, decide_eq_false e]
theorem key_lr (a : Int) (b : Str) : decide ((Sum.inl a : Key) = Sum.inr b) = false := decide_eq_false (fun q => nomatch q)
theorem key_rl (a : Str) (b : Int) : decide ((Sum.inr a : Key) = Sum.inl b) = false := decide_eq_false (fun q => nomatch q)
noncomputable def mixKind (prog : Program) (w : World) : PySem.KeyKind prog w Key where
 is := keyIs
 hash := keyH w
 inj := fun v a b ha hb => by
  rcases keyIs_shape ha with ⟨i, t, rfl, rfl⟩ | ⟨x, t, rfl, rfl⟩
  ·rcases keyIs_shape hb with ⟨j, u, rfl, e⟩ | ⟨y, u, rfl, e⟩
   ·injection e with e1 _; rw [e1]
   ·exact nomatch e
  ·rcases keyIs_shape hb with ⟨j, u, rfl, e⟩ | ⟨y, u, rfl, e⟩
   ·exact nomatch e
   ·injection e with e1 _; rw [e1]
 byValue := fun k v h => by
  rcases keyIs_shape h with ⟨i, t, rfl, rfl⟩ | ⟨x, t, rfl, rfl⟩ <;> rfl
 pyHash := fun hv h => by
  rcases keyIs_shape hv with ⟨i, t, rfl, rfl⟩ | ⟨x, t, rfl, rfl⟩
  ·exact wpAny_pyHash_int h
  ·exact wpAny_pyHash_str h
 eqBool := fun hu hv h => by
  rcases keyIs_shape hu with ⟨i, t, rfl, rfl⟩ | ⟨x, t, rfl, rfl⟩
  ·rcases keyIs_shape hv with ⟨j, u, rfl, rfl⟩ | ⟨y, u, rfl, rfl⟩
   ·rw [key_ll] at h; exact wpAny_eqBool_int h
   ·rw [key_lr] at h; exact SeqAt.EqAt.int_str i t y u _ _ _ _ h
  ·rcases keyIs_shape hv with ⟨j, u, rfl, rfl⟩ | ⟨y, u, rfl, rfl⟩
   ·rw [key_rl] at h; exact SeqAt.EqAt.str_int x t j u _ _ _ _ h
   ·rw [key_rr] at h; exact wpAny_eqBool_str h
 «strs» := fun k x t v h => by
  rcases keyIs_shape h with ⟨i, u, rfl, e⟩ | ⟨y, u, rfl, e⟩
  ·exact nomatch e
  ·injection e with e1 _
   subst e1
   cases v <;> rfl
theorem mixKind_int (prog : Program) (w : World) (i : Int) (t : Tok) : (mixKind prog w).is (.inl i) (.int i t) = true := keyIs_int i t
theorem mixKind_str (prog : Program) (w : World) (x : Str) (t : Tok) : (mixKind prog w).is (.inr x) (.str x t) = true := keyIs_str x t
end L2
namespace L2
open PySem PySem.Spec PyProof.Rows
inductive V where
 | non | bl (b : Bool) | int (i : Int) | str (x : Str) | byt (b : Array UInt8) | flt (b : UInt64) | ref (a : Addr) | ty (n : String)
 deriving DecidableEq
noncomputable def RelV : V -> Value -> Prop
 | .non, u => u = Value.none
 | .bl b, u => u = Value.bool b
 | .int i, u => ∃ t, u = Value.int i t
 | .str x, u => ∃ t, u = Value.str x t
 | .byt b, u => ∃ t, u = Value.bytes b t
 | .flt b, u => ∃ t, u = Value.float b t
 | .ref a, u => u = Value.ref a
 | .ty n, u => u = Value.type n
noncomputable abbrev Vals : List V -> List Value -> Prop := Paired RelV
theorem Vals.length {xs : List V} {us : List Value} (r : Vals xs us) : xs.length = us.length := Paired.length r
theorem Vals.get : ∀ {xs : List V} {us : List Value} {i : Nat} {x : V}, Vals xs us -> xs[i]? = some x -> ∃ u, us[i]? = some u /\ RelV x u
 | _, _, _, _, .nil, e => by simp at e
 | _, _, 0, _, .cons r _, e => by simp at e; subst e; exact ⟨_, rfl, r⟩
 | _, _, i + 1, x, .cons _ t, e => by
  obtain ⟨u, h1, h2⟩ := Vals.get (i := i) (x := x) t (by simpa using e)
  exact ⟨u, by simpa using h1, h2⟩
theorem Vals.set {x : V} {u : Value} (r : RelV x u) : ∀ {xs : List V} {us : List Value} (i : Nat), Vals xs us -> Vals (xs.set i x) (us.set i u)
 | _, _, _, .nil => .nil
 | _, _, 0, .cons _ t => .cons r t
 | _, _, i + 1, .cons q t => .cons q (Vals.set r i t)
theorem Vals.append : ∀ {xs ys : List V} {us ws : List Value}, Vals xs us -> Vals ys ws -> Vals (xs ++ ys) (us ++ ws)
 | _, _, _, _, .nil, s => s
 | _, _, _, _, .cons r t, s => .cons r (Vals.append t s)
theorem Vals.take : ∀ {xs : List V} {us : List Value} (n : Nat), Vals xs us -> Vals (xs.take n) (us.take n)
 | _, _, 0, _ => .nil
 | _, _, _ + 1, .nil => .nil
 | _, _, n + 1, .cons r t => .cons r (Vals.take n t)
theorem Vals.drop : ∀ {xs : List V} {us : List Value} (n : Nat), Vals xs us -> Vals (xs.drop n) (us.drop n)
 | _, _, 0, r => r
 | _, _, _ + 1, .nil => .nil
 | _, _, n + 1, .cons _ t => Vals.drop n t
noncomputable def RelO : Option V -> Option Value -> Prop
 | some v, some u => RelV v u
 | none, none => True
 | _, _ => False
noncomputable def KV {κ : Type} : List (κ × V) -> List (κ × Value) -> Prop := Paired fun (p : κ × V) (q : κ × Value) => p.1 = q.1 /\ RelV p.2 q.2
noncomputable def kV : Key -> V
 | .inl i => .int i
 | .inr x => .str x
inductive HO where
 /-- a list -/
 | lst (xs : List V)
 /-- a tuple (never changes) -/
 | tup (xs : List V)
 /-- a dict whose keys are ints and texts; one whose keys are tuples of ints and texts (the empty one is both) -/
 | dK (kvs : List (Key × V)) | dT (kvs : List (List Key × V))
 /-- one whose keys are plain tuples -/
 | dD (kvs : List (PyData × V))
 /-- a set of ints: its members, its size -/
 | set (S : Int -> Bool) (n : Nat)
 /-- an instance of the class at C, its dict at dx, its attributes -/
 | ins (C dx : Addr) (fs : List (Str × V))
 /-- the dict of the instance at x -/
 | own (x : Addr)
 /-- the dict of an exception -/
 | xd (fs : List (Str × V))
 /-- a bound method, f of x -/
 | met (f x : Addr)
 /-- a range object lo, lo + 1, .. below hi -/
 | rng (lo hi : Int)
 /-- a thing that is known to the object (the script; a dict while a loop walks it): read, never written while it is so -/
 | frz (o : Obj) (u : HO)
 /-- a code object's table -/
 | tbl (ps : Array Value)
 /-- any other thing, by what is true of its one object (a def of one's own: SetO a S n := HO.ext fun h => ..) -/
 | ext (φ : Heap -> Prop)
noncomputable abbrev Hp := Addr -> Option HO
mutual
inductive KD (H : Hp) : V -> PyData -> Prop
 | non : KD H .non .none
 | int (i : Int) : KD H (.int i) (.int i)
 | str (x : Str) : KD H (.str x) (.str x)
 | tup {p : Addr} {xs : List V} {ds : List PyData} : H p = some (.tup xs) -> KDs H xs ds -> KD H (.ref p) (.tuple ds)
inductive KDs (H : Hp) : List V -> List PyData -> Prop
 | nil : KDs H [] []
 | cons {x : V} {xs : List V} {d : PyData} {ds : List PyData} : KD H x d -> KDs H xs ds -> KDs H (x :: xs) (d :: ds)
end
mutual
theorem KD.mono {H H' : Hp} (ht : ∀ b xs, H b = some (.tup xs) -> H' b = some (.tup xs)) : ∀ {v : V} {d : PyData}, KD H v d -> KD H' v d
 | _, _, .non => .non
 | _, _, .int i => .int i
 | _, _, .str x => .str x
 | _, _, .tup e r => .tup (ht _ _ e) (KDs.mono ht r)
theorem KDs.mono {H H' : Hp} (ht : ∀ b xs, H b = some (.tup xs) -> H' b = some (.tup xs)) : ∀ {v : List V} {d : List PyData}, KDs H v d -> KDs H' v d
 | _, _, .nil => .nil
 | _, _, .cons a r => .cons (KD.mono ht a) (KDs.mono ht r)
end
noncomputable def upd (H : Hp) (a : Addr) (o : HO) : Hp := fun b => if b = a then some o else H b
theorem upd_same {H : Hp} {a : Addr} {o : HO} : upd H a o a = some o := by unfold upd; rw [if_pos rfl]
theorem upd_ne {H : Hp} {a b : Addr} {o : HO} (h : b ≠ a) : upd H a o b = H b := by unfold upd; rw [if_neg h]
theorem ne_of_none {H : Hp} {a b : Addr} {o : HO} (h : H a = some o) (h' : H b = none) : a ≠ b := by
 intro e; subst e; rw [h] at h'; cases h'
noncomputable def TupX (h : Heap) (a : Addr) (its : Array Value) : Prop := ∃ n, h.get? a = some { cls := .type "tuple", data := .seq its n }
theorem TupX.tup {h : Heap} {a : Addr} {its : Array Value} (x : TupX h a its) : IsTup h a its := let ⟨n, e⟩ := x; ⟨_, e, rfl, n, rfl⟩
theorem TupX.new (h : Heap) (its : Array Value) : TupX (h.push { cls := .type "tuple", data := .seq its }) h.objs.size its := ⟨_, Heap.get?_push_size _ rfl⟩
section
variable (P : Program) (w : World)
noncomputable def ObjOk (H : Hp) (h : Heap) (a : Addr) : HO -> Prop
 | .lst xs => xs.length <= sizeLine /\ ∃ (its : List Value) (n : Nat), Vals xs its /\ h.get? a = some { cls := .type "list", data := .seq its.toArray n }
 | .tup xs => xs.length <= sizeLine /\ ∃ its : List Value, Vals xs its /\ TupX h a its.toArray
 | .dK kvs => kvs.length <= sizeLine /\ (a == sysModules) = false /\ ∃ vs, KV kvs vs /\ h.DictOf (mixKind P w) a vs
 | .dT kvs => kvs.length <= sizeLine /\ (a == sysModules) = false /\ ∃ xs : List (List Key × Addr × Value),
   Paired (fun (p : List Key × V) (q : List Key × Addr × Value) => p.1 = q.1 /\ H q.2.1 = some (.tup (p.1.map kV)) /\ RelV p.2 q.2.2) kvs xs /\
   ∃ o es ep, h.get? a = some o /\ o.ExactDict /\ o.data = .dict es ep /\ es.toList = xs.map (entryOfKey (tupleKind (mixKind P w))) /\ (xs.map (·.1)).Nodup
 | .dD kvs => kvs.length <= sizeLine /\ (a == sysModules) = false /\ ∃ xs : List (PyData × Addr × Value),
   Paired (fun (p : PyData × V) (q : PyData × Addr × Value) => p.1 = q.1 /\ (PF.keyOk p.1 = true /\ KD H (.ref q.2.1) p.1) /\ RelV p.2 q.2.2) kvs xs /\
   ∃ o es ep, h.get? a = some o /\ o.ExactDict /\ o.data = .dict es ep /\ es.toList = xs.map (entryOfKey (PF.dataKind P w)) /\ (xs.map (·.1)).Nodup
 | .set S n => h.SetOf (intKind P w) a S n
 | .ins C dx fs => H dx = some (.own a) /\ fs.length <= 1000 /\ dx ≠ a /\ h.get? a = some (PySem.W.instObj C dx) /\
   ∃ mA, h.Ns1 dx mA /\ (∀ f, RelO (fs.lookup f) (mA f)) /\ PySem.Within mA (fs.map (·.1))
 | .own _ => ∃ o, h.get? a = some o
 | .xd fs => ∃ mA, h.Ns1 a mA /\ ∀ f, RelO (fs.lookup f) (mA f)
 | .rng lo hi => ∃ t u v, h.get? a = some { cls := .type "range", data := .fields #[.int lo t, .int hi u, .int 1 v] }
 | .frz o u => h.get? a = some o /\ ObjOk H h a u
 | .tbl ps => h.get? a = some { cls := .none, data := .fields ps }
 | .met f x => h.get? a = some (PySem.W.methodObj (.ref f) (.ref x))
 | .ext φ => φ h /\ (∃ o, h.get? a = some o) /\ ∀ h1 h2 : Heap, φ h1 -> (∀ o, h1.get? a = some o -> h2.get? a = some o) -> φ h2
noncomputable def HOk (H : Hp) (h : Heap) : Prop := ∀ a o, H a = some o -> ObjOk P w H h a o
end
section
variable {P : Program} {w : World} {H H' : Hp} {h h' : Heap} {a : Addr} {o : HO}
theorem ObjOk.lt (x : ObjOk P w H h a o) : a < h.objs.size := by
 cases o with
 | lst xs => obtain ⟨_, _, _, _, e⟩ := x; exact Heap.lt_size e
 | tup xs => obtain ⟨_, _, _, p⟩ := x; exact p.tup.lt
 | dK kvs => obtain ⟨_, _, _, _, o, _, _, e, _⟩ := x; exact Heap.lt_size e
 | dT kvs => obtain ⟨_, _, _, _, o, _, _, e, _⟩ := x; exact Heap.lt_size e
 | dD kvs => obtain ⟨_, _, _, _, o, _, _, e, _⟩ := x; exact Heap.lt_size e
 | set S n => obtain ⟨o, _, _, _, e, _⟩ := x; exact Heap.lt_size e
 | ins C dx fs => obtain ⟨_, _, _, e, _⟩ := x; exact Heap.lt_size e
 | own y => obtain ⟨_, e⟩ := x; exact Heap.lt_size e
 | xd fs => obtain ⟨_, ⟨_, _, _, e, _⟩, _⟩ := x; exact Heap.lt_size e
 | rng lo hi => obtain ⟨_, _, _, e⟩ := x; exact Heap.lt_size e
 | frz ob u => obtain ⟨e, _⟩ := x; exact Heap.lt_size e
 | tbl ps => exact Heap.lt_size (show h.get? a = some _ from x)
 | met f y => exact Heap.lt_size (show h.get? a = some _ from x)
 | ext φ => obtain ⟨_, ⟨_, e⟩, _⟩ := x; exact Heap.lt_size e
theorem Paired.mapP {α β : Type} {F G : α -> β -> Prop} : ∀ {l₁ : List α} {l₂ : List β}, Paired F l₁ l₂ -> (∀ a b, F a b -> G a b) -> Paired G l₁ l₂
 | _, _, .nil, _ => .nil
 | _, _, .cons r t, f => .cons (f _ _ r) (Paired.mapP t f)
theorem ObjOk.stay (x : ObjOk P w H h a o) (k : ∀ b u, (b = a \/ H b = some (.own a)) -> h.get? b = some u -> h'.get? b = some u)
  (ho : ∀ b, H b = some (.own a) -> H' b = some (.own a)) (ht : ∀ b xs, H b = some (.tup xs) -> H' b = some (.tup xs)) : ObjOk P w H' h' a o := by
 induction o with
 | lst xs => obtain ⟨z, its, n, r, e⟩ := x; exact ⟨z, its, n, r, k _ _ (.inl rfl) e⟩
 | tup xs => obtain ⟨z, its, r, n, e⟩ := x; exact ⟨z, its, r, n, k _ _ (.inl rfl) e⟩
 | dK kvs => obtain ⟨z, y, vs, r, ob, es, ep, e, c⟩ := x; exact ⟨z, y, vs, r, ob, es, ep, k _ _ (.inl rfl) e, c⟩
 | dT kvs =>
  obtain ⟨z, y, xs, r, ob, es, ep, e, c⟩ := x
  exact ⟨z, y, xs, Paired.mapP r fun p q z => ⟨z.1, ht _ _ z.2.1, z.2.2⟩, ob, es, ep, k _ _ (.inl rfl) e, c⟩
 | dD kvs =>
  obtain ⟨z, y, xs, r, ob, es, ep, e, c⟩ := x
  exact ⟨z, y, xs, Paired.mapP r fun p q z => ⟨z.1, ⟨z.2.1.1, z.2.1.2.mono ht⟩, z.2.2⟩, ob, es, ep, k _ _ (.inl rfl) e, c⟩
 | set S n => obtain ⟨ob, es, ep, t, e, c⟩ := x; exact ⟨ob, es, ep, t, k _ _ (.inl rfl) e, c⟩
 | ins C dx fs =>
  obtain ⟨d, z, ne, e, mA, ⟨od, es, ep, e2, c⟩, r⟩ := x
  exact ⟨ho _ d, z, ne, k _ _ (.inl rfl) e, mA, ⟨od, es, ep, k _ _ (.inr d) e2, c⟩, r⟩
 | own y => obtain ⟨ob, e⟩ := x; exact ⟨ob, k _ _ (.inl rfl) e⟩
 | xd fs => obtain ⟨mA, ⟨od, es, ep, e, c⟩, r⟩ := x; exact ⟨mA, ⟨od, es, ep, k _ _ (.inl rfl) e, c⟩, r⟩
 | rng lo hi => obtain ⟨t, u, v, e⟩ := x; exact ⟨t, u, v, k _ _ (.inl rfl) e⟩
 | frz ob u ih => obtain ⟨e, q⟩ := x; exact ⟨k _ _ (.inl rfl) e, ih q⟩
 | tbl ps =>
  have e : h.get? a = some { cls := .none, data := .fields ps } := x
  show h'.get? a = some { cls := .none, data := .fields ps }
  exact k a _ (.inl rfl) e
 | met f y =>
  have e : h.get? a = some (PySem.W.methodObj (.ref f) (.ref y)) := x
  show h'.get? a = some (PySem.W.methodObj (.ref f) (.ref y))
  exact k a _ (.inl rfl) e
 | ext φ => obtain ⟨p, ⟨o, e⟩, st⟩ := x; exact ⟨st _ _ p fun o q => k _ _ (.inl rfl) q, ⟨o, k _ _ (.inl rfl) e⟩, st⟩
theorem HOk.lt (x : HOk P w H h) (e : H a = some o) : a < h.objs.size := (x a o e).lt
theorem HOk.fresh (x : HOk P w H h) (e : h.objs.size <= a) : H a = none := by
 cases q : H a with
 | none => rfl
 | some u => exact absurd (Nat.lt_of_lt_of_le (x.lt q) e) (Nat.lt_irrefl _)
theorem HOk.kept (x : HOk P w H h) (k : ∀ b u, h.get? b = some u -> h'.get? b = some u) : HOk P w H h' := fun a o e =>
 (x a o e).stay (fun b u _ q => k b u q) (fun _ q => q) fun _ _ q => q
theorem HOk.laid (x : HOk P w H h) (k : ∀ b u, h.get? b = some u -> h'.get? b = some u) (hp : h.objs.size <= a) (new : ObjOk P w (upd H a o) h' a o) : HOk P w (upd H a o) h' := fun b u e => by
 have hn := x.fresh hp
 by_cases hb : b = a
 ·subst hb; rw [upd_same] at e; cases e; exact new
 ·rw [upd_ne hb] at e
  exact (x b u e).stay (fun c v _ q => k c v q) (fun c q => by rw [upd_ne (ne_of_none q hn)]; exact q) fun c xs q => by rw [upd_ne (ne_of_none q hn)]; exact q
end
noncomputable def Rd (H : Hp) (a : Addr) (u : HO) : Prop := H a = some u \/ ∃ o, H a = some (.frz o u)
theorem Rd.ok {P : Program} {w : World} {H : Hp} {h : Heap} {a : Addr} {u : HO} (r : Rd H a u) (x : HOk P w H h) : ObjOk P w H h a u := by
 rcases r with r | ⟨o, r⟩
 ·exact x a u r
 ·obtain ⟨_, q⟩ := x a _ r
  exact q
noncomputable def Mut : Option HO -> Prop
 | some (.lst _) => True
 | some (.dK _) => True
 | some (.dT _) => True
 | some (.dD _) => True
 | some (.set _ _) => True
 | some (.ins _ _ _) => True
 | some (.ext _) => True
 | _ => False
section
variable {P : Program} {w : World} {H : Hp} {h h' : Heap} {x e : Addr} {o' : HO}
theorem HOk.write (ok : HOk P w H h) (mu : Mut (H x)) (he : e = x \/ H e = some (.own x)) (k : ∀ b u, b ≠ e -> h.get? b = some u -> h'.get? b = some u) (heo : ∃ u, h'.get? e = some u)
  (new : ObjOk P w (upd H x o') h' x o') : HOk P w (upd H x o') h' := fun b u q => by
 have nown : ∀ c y, H c = some (.own y) -> c ≠ x := fun c y r z => by subst z; rw [r] at mu; exact mu
 have ntup : ∀ c xs, H c = some (.tup xs) -> c ≠ x := fun c xs r z => by subst z; rw [r] at mu; exact mu
 by_cases hb : b = x
 ·subst hb; rw [upd_same] at q; cases q; exact new
 ·rw [upd_ne hb] at q
  by_cases hbe : b = e
  ·have q' : H b = some (.own x) := by
    rcases he with z | z
    ·exact absurd (hbe.trans z) hb
    ·rw [hbe]; exact z
   rw [q] at q'; cases q'
   obtain ⟨v, hv⟩ := heo
   exact ⟨v, by rw [hbe]; exact hv⟩
  ·refine (ok b u q).stay (fun c v hc r => k c v ?_ r) (fun c r => by rw [upd_ne (nown c b r)]; exact r) fun c xs r => by rw [upd_ne (ntup c xs r)]; exact r
   rcases hc with rfl | hc
   ·exact hbe
   ·rintro rfl
    rcases he with z | z
    ·exact nown c b hc z
    ·rw [hc] at z; cases z; exact hb rfl
end
structure Un (fs ex : List Addr) (H H' : Hp) (h h' : Heap) : Prop where
 keep : ∀ b o, h.get? b = some o -> H b = none -> b ∉ fs -> b ∉ ex -> h'.get? b = some o
 slot : ∀ b o, h.get? b = some o -> H b = none -> b ∈ fs -> b ∉ ex -> ∃ sl, h'.get? b = some { o with slots := sl }
 free : ∀ b o, h.get? b = some o -> H b = none -> b ∉ ex -> H' b = none
 there : ∀ b o, h.get? b = some o -> b ∉ ex -> ∃ o', h'.get? b = some o'
 tups : ∀ b xs, H b = some (.tup xs) -> H' b = some (.tup xs)
 frzs : ∀ b o u, H b = some (.frz o u) -> H' b = some (.frz o u)
 tbls : ∀ b ps, H b = some (.tbl ps) -> ∃ more, H' b = some (.tbl (ps ++ more))
section
variable {fs fs' ex ex' : List Addr} {H H1 H2 : Hp} {h h1 h2 h' : Heap} {a x e : Addr} {o : HO}
theorem Un.any (u : Un fs ex H H1 h h1) {b : Addr} {ob : Obj} (q : h.get? b = some ob) (n : H b = none) (hx : b ∉ ex) : ∃ sl, h1.get? b = some { ob with slots := sl } := by
 by_cases hb : b ∈ fs
 ·exact u.slot b ob q n hb hx
 ·exact ⟨ob.slots, u.keep b ob q n hb hx⟩
theorem Un.kept (k : ∀ b u, h.get? b = some u -> h'.get? b = some u) : Un fs ex H H h h' :=
 ⟨fun b ob q _ _ _ => k b ob q, fun b ob q _ _ _ => ⟨ob.slots, k b ob q⟩, fun _ _ _ n _ => n, fun b ob q _ => ⟨ob, k b ob q⟩, fun _ _ q => q, fun _ _ _ q => q, fun _ ps q => ⟨#[], by rw [q]; simp⟩⟩
theorem Un.refl : Un fs ex H H h h := Un.kept fun _ _ q => q
theorem Un.laid (k : ∀ b u, h.get? b = some u -> h'.get? b = some u) (hp : h.objs.size <= a) (hn : H a = none) : Un fs ex H (upd H a o) h h' where
 keep := fun b u q _ _ _ => k b u q
 slot := fun b u q _ _ _ => ⟨u.slots, k b u q⟩
 free := fun b u q n _ => by rw [upd_ne (Nat.ne_of_lt (Nat.lt_of_lt_of_le (Heap.lt_size q) hp))]; exact n
 there := fun b u q _ => ⟨u, k b u q⟩
 tups := fun b xs q => by rw [upd_ne (ne_of_none q hn)]; exact q
 frzs := fun b u xs q => by rw [upd_ne (ne_of_none q hn)]; exact q
 tbls := fun b ps q => ⟨#[], by rw [upd_ne (ne_of_none q hn), q]; simp⟩
theorem Un.write (mu : Mut (H x)) (he : e = x \/ H e = some (.own x)) (k : ∀ b u, b ≠ e -> h.get? b = some u -> h'.get? b = some u) (heo : ∃ u, h'.get? e = some u) : Un fs ex H (upd H x o) h h' := by
 have hx : ∀ b, H b = none -> b ≠ x := fun b n z => by subst z; rw [n] at mu; exact mu
 have hb : ∀ b, H b = none -> b ≠ e := fun b n z => by
  subst z
  rcases he with r | r
  ·exact hx b n r
  ·rw [n] at r; cases r
 have hm : ∀ b u, H b = some u -> ¬ Mut (some u) -> b ≠ x := fun b u q nm z => by subst z; rw [q] at mu; exact nm mu
 refine ⟨fun b u q n _ _ => k b u (hb b n) q, fun b u q n _ _ => ⟨u.slots, k b u (hb b n) q⟩, fun b u q n _ => by rw [upd_ne (hx b n)]; exact n, fun b u q _ => ?_,
  fun b xs q => by rw [upd_ne (hm b _ q fun z => z)]; exact q, fun b u xs q => by rw [upd_ne (hm b _ q fun z => z)]; exact q, fun b ps q => ⟨#[], by rw [upd_ne (hm b _ q fun z => z), q]; simp⟩⟩
 by_cases hbe : b = e
 ·subst hbe; exact heo
 ·exact ⟨u, k b u hbe q⟩
end
noncomputable def trk (h : Heap) (H : Hp) : List Addr := (List.range h.objs.size).filter fun a => (H a).isSome
noncomputable def hidT (h : Heap) (H : Hp) : Heap := PySem.W.hideAll h (trk h H)
theorem hidT_size (h : Heap) (H : Hp) : (hidT h H).objs.size = h.objs.size := PySem.W.hideAll_size _ _
theorem hidT_get {h : Heap} {H : Hp} {b : Addr} {o : Obj} (e : h.get? b = some o) (n : H b = none) : (hidT h H).get? b = some o :=
 PySem.W.hideAll_get _ e fun hm => by
  have q : (H b).isSome = true := (List.mem_filter.mp hm).2
  rw [n] at q; simp at q
theorem of_hidT {h : Heap} {H : Hp} {b : Addr} {o : Obj} (e : (hidT h H).get? b = some o) : h.get? b = some o /\ H b = none := by
 have e' : h.get? b = some o := PySem.W.of_hideAll (trk h H) e
 refine ⟨e', ?_⟩
 cases q : H b with
 | none => rfl
 | some x =>
  have hm : b ∈ trk h H := List.mem_filter.mpr ⟨List.mem_range.mpr (Heap.lt_size e'), by simp [q]⟩
  have z : (hidT h H).get? b = none := PySem.W.hideAll_none (trk h H) hm
  rw [z] at e; cases e
noncomputable def allNews (g h : Heap) (L : Addr) : List (Addr × Obj) := (List.range h.objs.size).filterMap fun a => if a = L \/ (g.get? a).isSome = true then none else (h.get? a).map fun o => (a, o)
noncomputable def rest (g h : Heap) (L d : Addr) : List (Addr × Obj) := (allNews g h L).filter fun p => decide (p.1 ≠ d)
end L2
namespace L2
open PySem PySem.Spec PyProof.Rows
structure Mod (K : PySem.W.Frag) (mg : Str -> Option Value) (base : Heap) : Prop where
 kin : K.In base
 glob : base.Ns mainGlobals mg
 blt : ∃ mb, base.Ns builtinsNs mb /\ ∀ x : Str, x ≠ "__name__" -> mb x = bootBuiltins x
 nolimit : base.NoLimit
structure Cx where
 prog : Program
 w : World
 K : PySem.W.Frag
 mg : Str -> Option Value
 base : Heap
 A : Around
 N : List Str
 s₀ : Shared
 H₀ : Hp
 env : Env
 outer : List Env
 stack : List Env
 ex : List Addr
 fn : Str -> Bool
 calm : Bool
 pn : List (Addr × Obj)
 xe : Value -> Shared -> Prop
noncomputable def frs (l : List Env) : List Addr := l.filterMap (·.frame)
noncomputable abbrev Cx.fs (X : Cx) : List Addr := frs X.outer
noncomputable def Vis (sc : Scope) (x : Str) : Prop := sc.names.lookup x = some .local \/ sc.names.lookup x = some .cell \/ sc.names.lookup x = some .free
noncomputable def Loc (sc : Scope) (x : Str) : Prop := sc.names.lookup x = some .local \/ sc.names.lookup x = some .cell
noncomputable def Look (env : Env) (h : Heap) (m : Str -> Option Value) (x : Str) (u : Value) : Prop :=
 (env.kindOf x = some .local /\ m x = some u) \/ ((env.kindOf x = some .cell \/ env.kindOf x = some .free) /\ ∃ c, env.cells.lookup x = some c /\ h.IsCell c (some u))
structure Cx.Ok (X : Cx) : Prop where
 mod : Mod X.K X.mg X.base
 kind : X.env.scope.kind = .function
 glob : X.env.globals = mainGlobals
 blt : X.env.builtins = builtinsNs
 above : X.s₀.heap.objs.size <= X.env.locals
 inj : ∀ x y c, X.env.cells.lookup x = some c -> X.env.cells.lookup y = some c -> x = y
 has : ∀ x, (X.env.kindOf x = some .cell \/ X.env.kindOf x = some .free) -> ∃ c, X.env.cells.lookup x = some c
 cab : ∀ x c, X.fn x = true -> X.env.cells.lookup x = some c -> X.s₀.heap.objs.size <= c
 hd : X.calm = true -> X.A.handled = none
 frames : X.A.frames = some X.stack
 stk : X.stack = X.outer \/ (X.stack = X.env :: X.outer /\ X.env.frame = some X.env.locals)
 exf : ∀ b ∈ X.ex, b ≠ X.env.locals /\ ∀ x c, X.env.cells.lookup x = some c -> c ≠ b
 bs : ∀ b o, X.base.get? b = some o -> X.s₀.heap.get? b = some o /\ X.H₀ b = none
 bsz : X.base.objs.size <= X.s₀.heap.objs.size
 noex : ∀ b o, X.base.get? b = some o -> b ∉ X.ex
 exfs : ∀ b ∈ X.ex, b ∉ X.fs
 funs : X.s₀.heap.FunFrames X.base X.outer
 frf : ∀ b ∈ X.fs, X.H₀ b = none
structure Inv (X : Cx) (pins : List (Addr × Obj)) (σ : List (Option V)) (H : Hp) (s : Shared) : Prop where
 ok : X.Ok
 os : s.os = X.s₀.os
 bare : AllBare s.gens
 base : Un X.fs X.ex X.H₀ H X.s₀.heap s.heap
 loc : ∃ m, s.heap.Ns X.env.locals m /\ ∀ (i : Nat) (x : Str) (v : V), X.N[i]? = some x -> σ[i]? = some (some v) -> Vis X.env.scope x -> ∃ u, RelV v u /\ Look X.env s.heap m x u
 cell : ∀ x c, X.env.cells.lookup x = some c -> ∃ v, s.heap.IsCell c v
 free : H X.env.locals = none
 freeC : ∀ x c, X.env.cells.lookup x = some c -> H c = none
 pin : ∀ p ∈ X.pn ++ pins, s.heap.get? p.1 = some p.2 /\ H p.1 = none /\ p.1 ≠ X.env.locals /\ p.1 ∉ X.fs /\ ∀ v, p.2.data ≠ .cell v
 hok : HOk X.prog X.w H s.heap
 len : σ.length = X.N.length
section
variable {X : Cx} {pins : List (Addr × Obj)} {σ : List (Option V)} {H H' : Hp} {s : Shared} {h' : Heap}
theorem Cx.Ok.nofr (ok : X.Ok) {b : Addr} {o : Obj} (e : X.base.get? b = some o) : b ∉ X.fs := fun hb => by
 have := (ok.funs.mem hb).1
 rw [e] at this; cases this
theorem Inv.bs (I : Inv X pins σ H s) : ∀ b o, X.base.get? b = some o -> s.heap.get? b = some o /\ H b = none := fun b o e =>
 ⟨I.base.keep b o (I.ok.bs b o e).1 (I.ok.bs b o e).2 (I.ok.nofr e) (I.ok.noex b o e), I.base.free b o (I.ok.bs b o e).1 (I.ok.bs b o e).2 (I.ok.noex b o e)⟩
theorem Inv.bk (I : Inv X pins σ H s) : ∀ b o, X.base.get? b = some o -> s.heap.get? b = some o := fun b o e => (I.bs b o e).1
theorem Inv.mod (I : Inv X pins σ H s) : Mod X.K X.mg X.base := I.ok.mod
theorem Inv.kIn (I : Inv X pins σ H s) : X.K.In s.heap := I.ok.mod.kin.keeps I.bk
theorem Inv.lt (I : Inv X pins σ H s) : X.env.locals < s.heap.objs.size := let ⟨_, hn, _⟩ := I.loc; hn.lt
theorem Inv.sz (I : Inv X pins σ H s) : X.s₀.heap.objs.size <= s.heap.objs.size := Nat.le_trans I.ok.above (Nat.le_of_lt I.lt)
theorem Inv.nofs (I : Inv X pins σ H s) {a : Addr} (h : s.heap.objs.size <= a) : a ∉ X.fs := fun hb => by
 obtain ⟨_, o, ho, _⟩ := I.ok.funs.mem hb
 exact absurd (Nat.lt_of_lt_of_le (Heap.lt_size ho) (Nat.le_trans I.sz h)) (Nat.lt_irrefl _)
theorem Inv.cne (I : Inv X pins σ H s) : ∀ x c, X.env.cells.lookup x = some c -> c ≠ X.env.locals := fun x c e z => by
 obtain ⟨v, o, ho, hd⟩ := I.cell x c e
 obtain ⟨m, ⟨o', es, ep, ho', hd', _⟩, _⟩ := I.loc
 rw [z, ho'] at ho; cases ho; rw [hd'] at hd; cases hd
theorem Inv.funs (I : Inv X pins σ H s) : s.heap.FunFrames X.base X.outer := by
 have all : ∀ (l : List Env), (∀ b ∈ frs l, b ∈ X.fs) -> X.s₀.heap.FunFrames X.base l -> s.heap.FunFrames X.base l := by
  intro l
  induction l with
  | nil => intro _ _; trivial
  | cons env r ih =>
   intro hs hl
   obtain ⟨hk, ⟨L, o, hf, hn, ho, hd⟩, hr⟩ := hl
   have hL : L ∈ X.fs := hs L (by unfold frs; rw [List.filterMap_cons, hf]; exact List.mem_cons_self)
   obtain ⟨sl, e⟩ := I.base.slot L o ho (I.ok.frf L hL) hL fun z => I.ok.exfs L z hL
   exact ⟨hk, ⟨L, _, hf, hn, e, hd⟩, ih (fun b hb => hs b (by unfold frs; rw [List.filterMap_cons, hf]; exact List.mem_cons_of_mem _ hb)) hr⟩
 exact all X.outer (fun _ hb => hb) I.ok.funs
theorem Inv.stack (I : Inv X pins σ H s) : s.heap.FunFrames X.base X.stack := by
 rcases I.ok.stk with e | ⟨e, hf⟩
 ·rw [e]; exact I.funs
 ·rw [e]
  obtain ⟨m, hn, _⟩ := I.loc
  refine .cons (by rw [I.ok.kind]; decide) hf hn ?_ I.funs
  exact Heap.get?_none_of_le (Nat.le_trans I.ok.bsz I.ok.above)
theorem Inv.stkSub (I : Inv X pins σ H s) : ∀ b ∈ frs X.stack, b ∈ X.env.locals :: X.fs := fun b hb => by
 rcases I.ok.stk with e | ⟨e, hf⟩
 ·rw [e] at hb; exact List.mem_cons_of_mem _ hb
 ·rw [e] at hb
  unfold frs at hb
  rw [List.filterMap_cons, hf] at hb
  exact hb
theorem Inv.stkFree (I : Inv X pins σ H s) : ∀ b ∈ frs X.stack, H b = none := fun b hb => by
 rcases List.mem_cons.mp (I.stkSub b hb) with e | hb
 ·rw [e]; exact I.free
 ·obtain ⟨_, o, ho, _⟩ := I.ok.funs.mem hb
  exact I.base.free b o ho (I.ok.frf b hb) fun z => I.ok.exfs b z hb
theorem Inv.step {g' : Array GenState} {t' : Nat} {d' : Drawn} {ch : List Addr} (I : Inv X pins σ H s)
  (hch : ∀ b ∈ ch, (b ∈ X.ex \/ X.s₀.heap.objs.size <= b) /\ b ≠ X.env.locals /\ (∀ x c, X.env.cells.lookup x = some c -> c ≠ b) /\ ∀ p ∈ X.pn ++ pins, p.1 ≠ b)
  (keep : ∀ b o, b ≠ X.env.locals -> b ∉ X.fs -> b ∉ ch -> s.heap.get? b = some o -> H b = none -> h'.get? b = some o)
  (slot : ∀ b o, b ≠ X.env.locals -> b ∈ X.fs -> b ∉ ch -> s.heap.get? b = some o -> H b = none -> ∃ sl, h'.get? b = some { o with slots := sl }) (free : ∀ b o, b ∉ ch -> s.heap.get? b = some o -> H b = none -> H' b = none)
  (there : ∀ b o, b ∉ ch -> s.heap.get? b = some o -> ∃ o', h'.get? b = some o')
  (tups : ∀ b xs, H b = some (.tup xs) -> H' b = some (.tup xs)) (frzs : ∀ b o u, H b = some (.frz o u) -> H' b = some (.frz o u)) (tbls : ∀ b ps, H b = some (.tbl ps) -> ∃ more, H' b = some (.tbl (ps ++ more)))
  (ns : ∀ m, s.heap.Ns X.env.locals m -> h'.Ns X.env.locals m) (hok : HOk X.prog X.w H' h') (hg : AllBare g') :
  Inv X pins σ H' { s with heap := h', gens := g', drawn := d', toks := t' } := by
 have neL : ∀ b o, X.s₀.heap.get? b = some o -> b ≠ X.env.locals := fun b o e => Nat.ne_of_lt (Nat.lt_of_lt_of_le (Heap.lt_size e) I.ok.above)
 have neC : ∀ b o, X.s₀.heap.get? b = some o -> b ∉ X.ex -> b ∉ ch := fun b o e hx hb => by
  rcases (hch b hb).1 with z | z
  ·exact hx z
  ·exact absurd (Nat.lt_of_lt_of_le (Heap.lt_size e) z) (Nat.lt_irrefl _)
 have cellK : ∀ x c, X.env.cells.lookup x = some c -> ∀ v, s.heap.IsCell c v -> h'.IsCell c v := fun x c e v ⟨o, ho, hd⟩ => by
  have nch : c ∉ ch := fun z => (hch c z).2.2.1 x c e rfl
  by_cases hc : c ∈ X.fs
  ·obtain ⟨sl, q⟩ := slot c o (I.cne x c e) hc nch ho (I.freeC x c e)
   exact ⟨_, q, hd⟩
  ·exact ⟨o, keep c o (I.cne x c e) hc nch ho (I.freeC x c e), hd⟩
 refine ⟨I.ok, I.os, hg, ⟨fun b o e n hb hx => ?_, fun b o e n hb hx => ?_, fun b o e n hx => ?_, fun b o e hx => ?_, fun b xs e => tups b xs (I.base.tups b xs e), fun b o xs e => frzs b o xs (I.base.frzs b o xs e), fun b ps e => ?_⟩, ?_, fun x c e => ?_, ?_, fun x c e => ?_, fun p hp => ?_, hok, I.len⟩
 ·exact keep b o (neL b o e) hb (neC b o e hx) (I.base.keep b o e n hb hx) (I.base.free b o e n hx)
 ·obtain ⟨sl, e1⟩ := I.base.slot b o e n hb hx
  obtain ⟨sl', e2⟩ := slot b _ (neL b o e) hb (neC b o e hx) e1 (I.base.free b o e n hx)
  exact ⟨sl', e2⟩
 ·obtain ⟨o', e1⟩ := I.base.there b o e hx
  exact free b o' (neC b o e hx) e1 (I.base.free b o e n hx)
 ·obtain ⟨o', e1⟩ := I.base.there b o e hx
  exact there b o' (neC b o e hx) e1
 ·obtain ⟨m1, e1⟩ := I.base.tbls b ps e
  obtain ⟨m2, e2⟩ := tbls b _ e1
  exact ⟨m1 ++ m2, by rw [e2, Array.append_assoc]⟩
 ·obtain ⟨m, hn, hl⟩ := I.loc
  refine ⟨m, ns m hn, fun i x v e1 e2 e3 => ?_⟩
  obtain ⟨u, r, l⟩ := hl i x v e1 e2 e3
  refine ⟨u, r, ?_⟩
  rcases l with l | ⟨k, c, e, z⟩
  ·exact .inl l
  ·exact .inr ⟨k, c, e, cellK x c e _ z⟩
 ·obtain ⟨v, z⟩ := I.cell x c e
  exact ⟨v, cellK x c e v z⟩
 ·obtain ⟨m, ⟨o, _, _, ho, _⟩, _⟩ := I.loc
  exact free _ o (fun z => (hch _ z).2.1 rfl) ho I.free
 ·obtain ⟨v, o, ho, hd⟩ := I.cell x c e
  exact free c o (fun z => (hch c z).2.2.1 x c e rfl) ho (I.freeC x c e)
 ·obtain ⟨e, n, ne, nf, d⟩ := I.pin p hp
  have nch : p.1 ∉ ch := fun z => (hch p.1 z).2.2.2 p hp rfl
  exact ⟨keep p.1 p.2 ne nf nch e n, free p.1 p.2 nch e n, ne, nf, d⟩
theorem Inv.un {t' : Nat} (I : Inv X pins σ H s) (u : Un X.fs [] H H' s.heap h') (hok : HOk X.prog X.w H' h') : Inv X pins σ H' { s with heap := h', toks := t' } := by
 obtain ⟨m, ⟨o, es, ep, ho, r⟩, _⟩ := id I.loc
 obtain ⟨sl, hL⟩ := u.any ho I.free (by simp)
 exact I.step (g' := s.gens) (d' := s.drawn) (ch := []) (fun _ z => nomatch z) (fun b o _ hb _ e n => u.keep b o e n hb (by simp)) (fun b o _ hb _ e n => u.slot b o e n hb (by simp)) (fun b o _ e n => u.free b o e n (by simp)) (fun b o _ e => u.there b o e (by simp)) u.tups u.frzs u.tbls (fun m' hm => by
  obtain ⟨o', es', ep', ho', r'⟩ := hm
  rw [ho] at ho'; cases ho'
  exact ⟨_, es', ep', hL, r'⟩) hok I.bare
theorem Inv.call {g' : Array GenState} {t' : Nat} {d' : Drawn} {ch : List Addr} (I : Inv X pins σ H s) (u : Un (frs X.stack) ch H H' s.heap h') (hok : HOk X.prog X.w H' h') (hg : AllBare g')
  (hch : ∀ b ∈ ch, (b ∈ X.ex \/ X.s₀.heap.objs.size <= b) /\ b ≠ X.env.locals /\ (∀ x c, X.env.cells.lookup x = some c -> c ≠ b) /\ ∀ p ∈ X.pn ++ pins, p.1 ≠ b) :
  Inv X pins σ H' { s with heap := h', gens := g', drawn := d', toks := t' } := by
 obtain ⟨m, ⟨o, es, ep, ho, r⟩, _⟩ := id I.loc
 obtain ⟨sl, hL⟩ := u.any ho I.free fun z => (hch _ z).2.1 rfl
 exact I.step (ch := ch) hch (fun b o hL hb hc e n => u.keep b o e n (fun z => (List.mem_cons.mp (I.stkSub b z)).elim hL hb) hc) (fun b o _ _ hc e n => u.any e n hc) (fun b o hc e n => u.free b o e n hc) (fun b o hc e => u.there b o e hc) u.tups u.frzs u.tbls (fun m' hm => by
  obtain ⟨o', es', ep', ho', r'⟩ := hm
  rw [ho] at ho'; cases ho'
  exact ⟨_, es', ep', hL, r'⟩) hok hg
theorem Inv.turned {t' : Nat} {it : Addr} (I : Inv X pins σ H s) (k : ∀ b o, b ≠ it -> s.heap.get? b = some o -> h'.get? b = some o) (hn : H it = none) (hL : it ≠ X.env.locals)
  (h1 : it ∈ X.ex \/ X.s₀.heap.objs.size <= it) (h2 : ∀ x c, X.env.cells.lookup x = some c -> c ≠ it) (h3 : ∀ p ∈ X.pn ++ pins, p.1 ≠ it) : Inv X pins σ H { s with heap := h', toks := t' } := by
 have nit : ∀ b u, H b = some u -> b ≠ it := fun b u e z => by rw [z, hn] at e; cases e
 refine I.step (g' := s.gens) (d' := s.drawn) (ch := [it]) (fun b hb => ?_) (fun b o _ _ hc e _ => k b o (fun z => hc (by simp [z])) e) (fun b o _ _ hc e _ => ⟨o.slots, k b o (fun z => hc (by simp [z])) e⟩) (fun _ _ _ _ n => n)
  (fun b o hc e => ⟨o, k b o (fun z => hc (by simp [z])) e⟩) (fun _ _ e => e) (fun _ _ _ e => e) (fun b ps e => ⟨#[], by rw [e]; simp⟩) (fun m hm => ?_) (fun b u e => ?_) I.bare
 ·have e : b = it := by simpa using hb
  subst e
  exact ⟨h1, hL, h2, h3⟩
 ·obtain ⟨o, es, ep, ho, r⟩ := hm
  exact ⟨o, es, ep, k _ o (Ne.symm hL) ho, r⟩
 ·refine (I.hok b u e).stay (fun c v hc q => k c v ?_ q) (fun _ q => q) fun _ _ q => q
  rcases hc with z | z
  ·rw [z]; exact nit b u e
  ·exact nit c _ z
theorem Inv.tok (I : Inv X pins σ H s) (t : Nat) : Inv X pins σ H { s with toks := t } := I.un (h' := s.heap) (t' := t) Un.refl I.hok
theorem Inv.kept {t' : Nat} (I : Inv X pins σ H s) (k : ∀ b u, s.heap.get? b = some u -> h'.get? b = some u) : Inv X pins σ H { s with heap := h', toks := t' } := I.un (Un.kept k) (I.hok.kept k)
theorem Inv.laid {a : Addr} {o : HO} {t' : Nat} (I : Inv X pins σ H s) (k : ∀ b u, s.heap.get? b = some u -> h'.get? b = some u) (hp : s.heap.objs.size <= a) (new : ObjOk X.prog X.w (upd H a o) h' a o) :
  Inv X pins σ (upd H a o) { s with heap := h', toks := t' } := I.un (Un.laid k hp (I.hok.fresh hp)) (I.hok.laid k hp new)
theorem Inv.write {x e : Addr} {o : HO} {t' : Nat} (I : Inv X pins σ H s) (mu : Mut (H x)) (he : e = x \/ H e = some (.own x)) (k : ∀ b u, b ≠ e -> s.heap.get? b = some u -> h'.get? b = some u) (heo : ∃ u, h'.get? e = some u)
  (new : ObjOk X.prog X.w (upd H x o) h' x o) : Inv X pins σ (upd H x o) { s with heap := h', toks := t' } := I.un (Un.write mu he k heo) (I.hok.write mu he k heo new)
theorem Inv.pins_of {pins' : List (Addr × Obj)} (I : Inv X pins σ H s) (h : ∀ p ∈ pins', s.heap.get? p.1 = some p.2 /\ H p.1 = none /\ p.1 ≠ X.env.locals /\ p.1 ∉ X.fs /\ ∀ v, p.2.data ≠ .cell v) : Inv X pins' σ H s :=
 ⟨I.ok, I.os, I.bare, I.base, I.loc, I.cell, I.free, I.freeC, fun p hp => (List.mem_append.mp hp).elim (fun z => I.pin p (List.mem_append_left _ z)) (h p), I.hok, I.len⟩
theorem nodup_ix {N : List Str} (hN : N.Nodup) {i j : Nat} {x : Str} (a : N[i]? = some x) (b : N[j]? = some x) : i = j := by
 obtain ⟨h1, e1⟩ := List.getElem?_eq_some_iff.mp a
 obtain ⟨h2, e2⟩ := List.getElem?_eq_some_iff.mp b
 exact (List.getElem_inj hN).mp (e1.trans e2.symm)
theorem store_ok2 {M : Model} {A : Around} {E : Value -> Shared -> Prop} {i : Nat} {x : Str} {v : V} {u : Value} {Q : Unit -> Shared -> Prop} (I : Inv X pins σ H s) (hN : X.N.Nodup) (hi : X.N[i]? = some x) (hx : Loc X.env.scope x) (r : RelV v u)
  (h : ∀ s', Inv X pins (σ.set i (some v)) H s' -> (∃ a, Heap.SameBut a s.heap s'.heap /\ (a = X.env.locals \/ X.env.cells.lookup x = some a)) -> Q () s') (hf : X.fn x = true \/ X.env.scope.names.lookup x = some .local) : wpAny M A (storeName X.env x u) Q E s := by
 obtain ⟨m, hn, hl⟩ := id I.loc
 have hcls : (X.env.scope.kind == .class || (X.env.scope.kind == .module && X.env.locals != X.env.globals)) = false := by rw [I.ok.kind]; rfl
 have hiσ : i < σ.length := by rw [I.len]; exact (List.getElem?_eq_some_iff.mp hi).1
 have cne := I.cne
 have tracked : ∀ {a : Addr} {h' : Heap}, (∃ o, s.heap.get? a = some o /\ H a = none) -> Heap.SameBut a s.heap h' -> HOk X.prog X.w H h' := fun {a h'} ha hs b ob e => by
  obtain ⟨_, _, hfree⟩ := ha
  refine (I.hok b ob e).stay (fun c w' hc q => (hs.2 c ?_).trans q) (fun _ q => q) fun _ _ q => q
  rintro rfl
  rcases hc with rfl | hc
  ·rw [hfree] at e; cases e
  ·rw [hfree] at hc; cases hc
 rcases hx with hk | hk
 ·refine wpAny_storeName_local hk hn (fun h' hn' hs => ?_) hcls
  obtain ⟨oL, _, _, hoL, _⟩ := id hn
  refine h _ ⟨I.ok, I.os, I.bare, ⟨fun b o e n hb hx => ?_, fun b o e n hb hx => ?_, I.base.free, fun b o e hx => ?_, I.base.tups, I.base.frzs, I.base.tbls⟩, ⟨_, hn', fun j y v' e1 e2 e3 => ?_⟩, fun y c e => ?_, I.free, I.freeC, fun p hp => ?_, tracked ⟨oL, hoL, I.free⟩ hs, by simpa using I.len⟩ ⟨_, hs, .inl rfl⟩
  ·exact (hs.2 b (Nat.ne_of_lt (Nat.lt_of_lt_of_le (Heap.lt_size e) I.ok.above))).trans (I.base.keep b o e n hb hx)
  ·obtain ⟨sl, e1⟩ := I.base.slot b o e n hb hx
   exact ⟨sl, (hs.2 b (Nat.ne_of_lt (Nat.lt_of_lt_of_le (Heap.lt_size e) I.ok.above))).trans e1⟩
  ·obtain ⟨o', e1⟩ := I.base.there b o e hx
   exact ⟨o', (hs.2 b (Nat.ne_of_lt (Nat.lt_of_lt_of_le (Heap.lt_size e) I.ok.above))).trans e1⟩
  ·by_cases hj : j = i
   ·subst hj
    rw [hi] at e1; cases e1
    rw [List.getElem?_set_self hiσ] at e2
    cases e2
    exact ⟨u, r, .inl ⟨hk, by simp⟩⟩
   ·rw [List.getElem?_set_ne (Ne.symm hj)] at e2
    obtain ⟨u', r', q⟩ := hl j y v' e1 e2 e3
    refine ⟨u', r', ?_⟩
    rcases q with ⟨k, e⟩ | ⟨k, c, e, z⟩
    ·refine .inl ⟨k, ?_⟩
     have : y ≠ x := fun e => hj (nodup_ix hN e1 (e ▸ hi))
     simp [this, e]
    ·exact .inr ⟨k, c, e, z.sameBut hs (cne y c e)⟩
  ·obtain ⟨w', z⟩ := I.cell y c e
   exact ⟨w', z.sameBut hs (cne y c e)⟩
  ·obtain ⟨e, n, ne, nf, d⟩ := I.pin p hp
   exact ⟨(hs.2 p.1 ne).trans e, n, ne, nf, d⟩
 ·have hfn : X.fn x = true := by
   rcases hf with z | z
   ·exact z
   ·rw [z] at hk; cases hk
  obtain ⟨c, hc⟩ := I.ok.has x (.inl hk)
  obtain ⟨w', z⟩ := I.cell x c hc
  refine wpAny_storeName_cell I.ok.kind hk hc z (fun h' hc' hs => ?_)
  obtain ⟨oc, hoc, hocd⟩ := id z
  refine h { s with heap := h' } ⟨I.ok, I.os, I.bare, ⟨fun b o e n hb hx => ?_, fun b o e n hb hx => ?_, I.base.free, fun b o e hx => ?_, I.base.tups, I.base.frzs, I.base.tbls⟩, ⟨m, hn.sameBut hs (Ne.symm (cne x c hc)), fun j y v' e1 e2 e3 => ?_⟩, fun y c' e => ?_, I.free, I.freeC, fun p hp => ?_, tracked ⟨oc, hoc, I.freeC x c hc⟩ hs, by simpa using I.len⟩ ⟨c, hs, .inr hc⟩
  ·exact (hs.2 b (Nat.ne_of_lt (Nat.lt_of_lt_of_le (Heap.lt_size e) (I.ok.cab x c hfn hc)))).trans (I.base.keep b o e n hb hx)
  ·obtain ⟨sl, e1⟩ := I.base.slot b o e n hb hx
   exact ⟨sl, (hs.2 b (Nat.ne_of_lt (Nat.lt_of_lt_of_le (Heap.lt_size e) (I.ok.cab x c hfn hc)))).trans e1⟩
  ·obtain ⟨o', e1⟩ := I.base.there b o e hx
   exact ⟨o', (hs.2 b (Nat.ne_of_lt (Nat.lt_of_lt_of_le (Heap.lt_size e) (I.ok.cab x c hfn hc)))).trans e1⟩
  ·by_cases hj : j = i
   ·subst hj
    rw [hi] at e1; cases e1
    rw [List.getElem?_set_self hiσ] at e2
    cases e2
    exact ⟨u, r, .inr ⟨.inl hk, c, hc, hc'⟩⟩
   ·rw [List.getElem?_set_ne (Ne.symm hj)] at e2
    obtain ⟨u', r', q⟩ := hl j y v' e1 e2 e3
    refine ⟨u', r', ?_⟩
    rcases q with q | ⟨k, c', e, z'⟩
    ·exact .inl q
    ·refine .inr ⟨k, c', e, z'.sameBut hs ?_⟩
     rintro rfl
     exact hj (nodup_ix hN e1 (I.ok.inj _ _ _ e hc ▸ hi))
  ·by_cases hcc : c' = c
   ·subst hcc; exact ⟨_, hc'⟩
   ·obtain ⟨w2, z2⟩ := I.cell y c' e
    exact ⟨w2, z2.sameBut hs hcc⟩
  ·obtain ⟨e, n, ne, nf, d⟩ := I.pin p hp
   refine ⟨(hs.2 p.1 ?_).trans e, n, ne, nf, d⟩
   intro q
   rw [q, hoc] at e
   have q' : oc = p.2 := Option.some.inj e
   exact d w' (by rw [← q']; exact hocd)
theorem store_ok {M : Model} {A : Around} {E : Value -> Shared -> Prop} {i : Nat} {x : Str} {v : V} {u : Value} {Q : Unit -> Shared -> Prop} (I : Inv X pins σ H s) (hN : X.N.Nodup) (hi : X.N[i]? = some x) (hx : Loc X.env.scope x) (r : RelV v u)
  (h : ∀ s', Inv X pins (σ.set i (some v)) H s' -> Q () s') (hf : X.fn x = true \/ X.env.scope.names.lookup x = some .local := by first | exact .inl rfl | exact .inr rfl | assumption) : wpAny M A (storeName X.env x u) Q E s :=
 store_ok2 I hN hi hx r (fun s' I' _ => h s' I') hf
theorem Inv.call' {s' : Shared} {ch : List Addr} (I : Inv X pins σ H s) (ho : s'.os = s.os) (u : Un (frs X.stack) ch H H' s.heap s'.heap) (hok : HOk X.prog X.w H' s'.heap) (hg : AllBare s'.gens)
  (hch : ∀ b ∈ ch, (b ∈ X.ex \/ X.s₀.heap.objs.size <= b) /\ b ≠ X.env.locals /\ (∀ x c, X.env.cells.lookup x = some c -> c ≠ b) /\ ∀ p ∈ X.pn ++ pins, p.1 ≠ b) : Inv X pins σ H' s' := by
 obtain ⟨h', g', d', t', o'⟩ := s'
 have e : o' = s.os := ho
 subst e
 exact I.call (g' := g') (t' := t') (d' := d') u hok hg hch
end
noncomputable abbrev XK := Value -> Option Addr -> Hp -> Prop
noncomputable abbrev St := List (Option V)
noncomputable abbrev VK := V -> Hp -> Prop
noncomputable abbrev TE := St -> Hp -> VK -> Prop
noncomputable abbrev TT := St -> Hp -> (Bool -> Hp -> Prop) -> Prop
noncomputable abbrev TA := St -> Hp -> (List V -> Hp -> Prop) -> Prop
structure Ends where
 nx : St -> Hp -> Prop
 rt : VK
 bk : St -> Hp -> Prop := fun _ _ => False
 ct : St -> Hp -> Prop := fun _ _ => False
noncomputable abbrev TS := Ends -> St -> Hp -> Prop
noncomputable def EP (X : Cx) (pins : List (Addr × Obj)) (σ : St) (Q : VK) (u : Value) (s' : Shared) : Prop := ∃ v H', Inv X pins σ H' s' /\ RelV v u /\ Q v H'
noncomputable def TP (X : Cx) (pins : List (Addr × Obj)) (σ : St) (Q : Bool -> Hp -> Prop) (b : Bool) (s' : Shared) : Prop := ∃ H', Inv X pins σ H' s' /\ Q b H'
noncomputable def AP (X : Cx) (pins : List (Addr × Obj)) (σ : St) (Q : List V -> Hp -> Prop) (us : List Value) (s' : Shared) : Prop := ∃ vs H', Inv X pins σ H' s' /\ Vals vs us /\ Q vs H'
noncomputable def SP (X : Cx) (pins : List (Addr × Obj)) (D : Ends) (f : Flow) (s' : Shared) : Prop :=
 match f with
 | .next => ∃ σ' H', Inv X pins σ' H' s' /\ D.nx σ' H'
 | .brk => ∃ σ' H', Inv X pins σ' H' s' /\ D.bk σ' H'
 | .cont => ∃ σ' H', Inv X pins σ' H' s' /\ D.ct σ' H'
 | .ret u => ∃ v σ' H', Inv X pins σ' H' s' /\ RelV v u /\ D.rt v H'
structure PE (X : Cx) (e : Expr) (t : TE) : Prop where
 run : ∀ (pins : List (Addr × Obj)) (s : Shared) (σ : St) (H : Hp) (Q : VK), Inv X pins σ H s -> t σ H Q -> wpAny (model X.prog X.w) X.A (eval e X.env) (EP X pins σ Q) X.xe s
noncomputable instance {X : Cx} {e : Expr} {t : TE} : CoeFun (PE X e t) fun _ => ∀ (pins : List (Addr × Obj)) (s : Shared) (σ : St) (H : Hp) (Q : VK), Inv X pins σ H s -> t σ H Q -> wpAny (model X.prog X.w) X.A (eval e X.env) (EP X pins σ Q) X.xe s := ⟨PE.run⟩
structure PT (X : Cx) (e : Expr) (t : TT) : Prop where
 run : ∀ (pins : List (Addr × Obj)) (s : Shared) (σ : St) (H : Hp) (Q : Bool -> Hp -> Prop), Inv X pins σ H s -> t σ H Q -> wpAny (model X.prog X.w) X.A (isTrue e X.env (eval e X.env)) (TP X pins σ Q) X.xe s
noncomputable instance {X : Cx} {e : Expr} {t : TT} : CoeFun (PT X e t) fun _ => ∀ (pins : List (Addr × Obj)) (s : Shared) (σ : St) (H : Hp) (Q : Bool -> Hp -> Prop), Inv X pins σ H s -> t σ H Q -> wpAny (model X.prog X.w) X.A (isTrue e X.env (eval e X.env)) (TP X pins σ Q) X.xe s := ⟨PT.run⟩
structure PW (X : Cx) (e : Expr) (t : TT) : Prop where
 run : ∀ (whole : Sem Value) (pins : List (Addr × Obj)) (s : Shared) (σ : St) (H : Hp) (Q : Bool -> Hp -> Prop), Inv X pins σ H s -> t σ H Q -> wpAny (model X.prog X.w) X.A (isTrue e X.env whole) (TP X pins σ Q) X.xe s
noncomputable instance {X : Cx} {e : Expr} {t : TT} : CoeFun (PW X e t) fun _ => ∀ (whole : Sem Value) (pins : List (Addr × Obj)) (s : Shared) (σ : St) (H : Hp) (Q : Bool -> Hp -> Prop), Inv X pins σ H s -> t σ H Q -> wpAny (model X.prog X.w) X.A (isTrue e X.env whole) (TP X pins σ Q) X.xe s := ⟨PW.run⟩
theorem PW.pt {X : Cx} {e : Expr} {t : TT} (h : PW X e t) : PT X e t := ⟨h _⟩
structure PA (X : Cx) (es : List Expr) (t : TA) : Prop where
 run : ∀ (pos : Pos) (pins : List (Addr × Obj)) (s : Shared) (σ : St) (H : Hp) (Q : List V -> Hp -> Prop), Inv X pins σ H s -> t σ H Q -> wpAny (model X.prog X.w) X.A (spliced (backTo pos (starEach es X.env))) (AP X pins σ Q) X.xe s
noncomputable instance {X : Cx} {es : List Expr} {t : TA} : CoeFun (PA X es t) fun _ => ∀ (pos : Pos) (pins : List (Addr × Obj)) (s : Shared) (σ : St) (H : Hp) (Q : List V -> Hp -> Prop), Inv X pins σ H s -> t σ H Q -> wpAny (model X.prog X.w) X.A (spliced (backTo pos (starEach es X.env))) (AP X pins σ Q) X.xe s := ⟨PA.run⟩
structure PS (X : Cx) (st : Stmt) (t : TS) : Prop where
 run : ∀ (pins : List (Addr × Obj)) (s : Shared) (σ : St) (H : Hp) (D : Ends), Inv X pins σ H s -> t D σ H -> wpAny (model X.prog X.w) X.A (exec st X.env) (SP X pins D) X.xe s
noncomputable instance {X : Cx} {st : Stmt} {t : TS} : CoeFun (PS X st t) fun _ => ∀ (pins : List (Addr × Obj)) (s : Shared) (σ : St) (H : Hp) (D : Ends), Inv X pins σ H s -> t D σ H -> wpAny (model X.prog X.w) X.A (exec st X.env) (SP X pins D) X.xe s := ⟨PS.run⟩
structure PSs (X : Cx) (st : List Stmt) (t : TS) : Prop where
 run : ∀ (pins : List (Addr × Obj)) (s : Shared) (σ : St) (H : Hp) (D : Ends), Inv X pins σ H s -> t D σ H -> wpAny (model X.prog X.w) X.A (execs st X.env) (SP X pins D) X.xe s
noncomputable instance {X : Cx} {st : List Stmt} {t : TS} : CoeFun (PSs X st t) fun _ => ∀ (pins : List (Addr × Obj)) (s : Shared) (σ : St) (H : Hp) (D : Ends), Inv X pins σ H s -> t D σ H -> wpAny (model X.prog X.w) X.A (execs st X.env) (SP X pins D) X.xe s := ⟨PSs.run⟩
theorem thn {α : Type} {t : Sem α} {Q Q' : α -> Shared -> Prop} {M : Model} {A : Around} {E : Value -> Shared -> Prop} {s : Shared} (h : wpAny M A t Q E s) (hQ : ∀ a s, Q a s -> Q' a s) : wpAny M A t Q' E s := wpAny_mono h hQ fun _ _ x => x
end L2
namespace L2
open PySem PySem.Spec PyProof.Rows
section
variable {X : Cx}
noncomputable def tVar (i : Nat) : TE := fun σ H Q => ∃ v, σ[i]? = some (some v) /\ Q v H
noncomputable def tC (v : V) : TE := fun _ H Q => Q v H
theorem pe_var {i : Nat} {x : Str} {pos : Pos} (hN : X.N[i]? = some x) (hv : Vis X.env.scope x) (hd : (x == ("__debug__" : Str)) = false := by decide) (hcd : (x == ("__classdict__" : Str)) = false := by decide) : PE X (.Name x pos) (tVar i) := by
 (first | refine ⟨?_⟩ | skip); intro pins s σ H Q I h
 obtain ⟨v, e, h⟩ := h
 obtain ⟨m, hn, hl⟩ := I.loc
 obtain ⟨u, r, l⟩ := hl i x v hN e hv
 have fin : EP X pins σ Q u s := ⟨v, H, I, r, h⟩
 rcases l with ⟨hk, hm⟩ | ⟨hk, c, hc, hcell⟩
 ·exact wpAny_Name (wpAny_loadName_local I.ok.kind hk hn hm fin) hd
 ·rcases hk with hk | hk
  ·exact wpAny_Name (wpAny_loadName_cell I.ok.kind hk hc hcell fin) hd
  ·exact wpAny_Name (wpAny_loadName_free I.ok.kind hk hc hcell fin hcd) hd
theorem pe_int {i j pos} : PE X (.Constant (.int i) j pos) (tC (.int i)) := .mk <| fun _ _ _ H _ I h => wpAny_Constant_int ⟨.int i, H, I.tok _, ⟨_, rfl⟩, h⟩
theorem pe_bl {b j pos} : PE X (.Constant (.bool b) j pos) (tC (.bl b)) := .mk <| fun _ _ _ H _ I h => Constant_bool ⟨.bl b, H, I, rfl, h⟩
theorem pe_non {j pos} : PE X (.Constant .none j pos) (tC .non) := .mk <| fun _ _ _ H _ I h => Constant_none ⟨.non, H, I, rfl, h⟩
theorem pe_str {x j pos} : PE X (.Constant (.str x) j pos) (tC (.str x)) := .mk <| fun _ _ _ H _ I h => Calls.Constant_str ⟨.str x, H, I.tok _, ⟨_, rfl⟩, h⟩
noncomputable def Gl (X : Cx) (x : Str) : Prop := X.env.kindOf x = some .globalImplicit
theorem ld_glob {E : Value -> Shared -> Prop} {pins : List (Addr × Obj)} {s : Shared} {σ : St} {H : Hp} {x : Str} {u : Value} {pos : Pos} {Q : Value -> Shared -> Prop} (I : Inv X pins σ H s) (hg : Gl X x) (hm : X.mg x = some u) (h : Q u s)
  (hd : (x == ("__debug__" : Str)) = false := by decide) : wpAny (model X.prog X.w) X.A (eval (.Name x pos) X.env) Q E s :=
 Calls.Name_function_global I.ok.kind hg (Calls.loadGlobal_global (by rw [I.ok.glob]; exact I.mod.glob.keeps I.bk) hm h) hd
theorem ld_blt {E : Value -> Shared -> Prop} {pins : List (Addr × Obj)} {s : Shared} {σ : St} {H : Hp} {x : Str} {u : Value} {pos : Pos} {Q : Value -> Shared -> Prop} (I : Inv X pins σ H s) (hg : Gl X x) (hm : X.mg x = none) (hv : bootBuiltins x = some u) (h : Q u s)
  (hn : x ≠ "__name__" := by decide) (hd : (x == ("__debug__" : Str)) = false := by decide) : wpAny (model X.prog X.w) X.A (eval (.Name x pos) X.env) Q E s := by
 obtain ⟨mb, h1, h2⟩ := I.mod.blt
 exact Calls.Name_function_global I.ok.kind hg (Calls.loadGlobal_builtin (by rw [I.ok.glob]; exact I.mod.glob.keeps I.bk) hm (by rw [I.ok.blt]; exact h1.keeps I.bk) ((h2 x hn).trans hv) h) hd
theorem pe_glob {x : Str} {v : V} {u : Value} {pos : Pos} (hg : Gl X x) (hm : X.mg x = some u) (r : RelV v u) (hd : (x == ("__debug__" : Str)) = false := by decide) : PE X (.Name x pos) (tC v) :=
 .mk <| fun _ _ _ H _ I h => ld_glob I hg hm ⟨v, H, I, r, h⟩ hd
variable {a b : Expr} {ta tb : TE} {pos : Pos}
variable {tA tB' : TT} {rest : List Expr}
noncomputable def tAnd (t u : TT) : TT := fun σ H Q => t σ H fun c H1 => if c = true then u σ H1 Q else Q false H1
noncomputable def tOr (t u : TT) : TT := fun σ H Q => t σ H fun c H1 => if c = true then Q true H1 else u σ H1 Q
noncomputable def tNot (t : TT) : TT := fun σ H Q => t σ H fun c H1 => Q (!c) H1
theorem pw_and1 (ha : PT X a tA) : PW X (.BoolOp .And [a] pos) tA := by
 (first | refine ⟨?_⟩ | skip); intro wh pins s σ H Q I h
 refine isTrue_and (thn (ha pins s σ H Q I h) fun c s1 e => ?_)
 cases c with
 | true => exact isTrue_and_nil e
 | false => exact e
theorem pw_or1 (ha : PT X a tA) : PW X (.BoolOp .Or [a] pos) tA := by
 (first | refine ⟨?_⟩ | skip); intro wh pins s σ H Q I h
 refine isTrue_or (thn (ha pins s σ H Q I h) fun c s1 e => ?_)
 cases c with
 | false => exact isTrue_or_nil e
 | true => exact e
theorem pw_and (ha : PT X a tA) (hb : PW X (.BoolOp .And (b :: rest) pos) tB') : PW X (.BoolOp .And (a :: b :: rest) pos) (tAnd tA tB') := by
 (first | refine ⟨?_⟩ | skip); intro wh pins s σ H Q I h
 refine isTrue_and (thn (ha pins s σ H _ I h) fun c s1 ⟨H1, I1, q1⟩ => ?_)
 cases c with
 | true => exact hb wh pins s1 σ H1 Q I1 q1
 | false => exact ⟨H1, I1, q1⟩
theorem pw_or (ha : PT X a tA) (hb : PW X (.BoolOp .Or (b :: rest) pos) tB') : PW X (.BoolOp .Or (a :: b :: rest) pos) (tOr tA tB') := by
 (first | refine ⟨?_⟩ | skip); intro wh pins s σ H Q I h
 refine isTrue_or (thn (ha pins s σ H _ I h) fun c s1 ⟨H1, I1, q1⟩ => ?_)
 cases c with
 | true => exact ⟨H1, I1, q1⟩
 | false => exact hb wh pins s1 σ H1 Q I1 q1
theorem pt_not (ha : PT X a tA) : PT X (.UnaryOp .Not a pos) (tNot tA) := by
 (first | refine ⟨?_⟩ | skip); intro pins s σ H Q I h
 exact isTrue_not (ha pins s σ H (fun c H1 => Q (!c) H1) I h)
noncomputable def tAndV (ta tb : TE) : TE := fun σ H Q => ta σ H fun x H1 => ∃ c, x = .bl c /\ if c = true then tb σ H1 Q else Q (.bl false) H1
noncomputable def tOrV (ta tb : TE) : TE := fun σ H Q => ta σ H fun x H1 => ∃ c, x = .bl c /\ if c = true then Q (.bl true) H1 else tb σ H1 Q
theorem pe_one {op} {t : TE} (h : PE X a t) : PE X (.BoolOp op [a] pos) t := .mk <| fun pins s σ H Q I hw => BoolOp_one (h pins s σ H Q I hw)
theorem pe_and (ha : PE X a ta) (hb : PE X (.BoolOp .And (b :: rest) pos) tb) : PE X (.BoolOp .And (a :: b :: rest) pos) (tAndV ta tb) := by
 (first | refine ⟨?_⟩ | skip); intro pins s σ H Q I h
 refine BoolOp_and (thn (ha pins s σ H _ I h) fun v s1 ⟨x, H1, I1, r1, q1⟩ => ?_)
 obtain ⟨c, rfl, q1⟩ := q1
 cases r1
 refine wpAny_truthy_bool ?_
 cases c with
 | true => exact hb pins s1 σ H1 Q I1 q1
 | false => exact ⟨.bl false, H1, I1, rfl, q1⟩
theorem pe_or (ha : PE X a ta) (hb : PE X (.BoolOp .Or (b :: rest) pos) tb) : PE X (.BoolOp .Or (a :: b :: rest) pos) (tOrV ta tb) := by
 (first | refine ⟨?_⟩ | skip); intro pins s σ H Q I h
 refine BoolOp_or (thn (ha pins s σ H _ I h) fun v s1 ⟨x, H1, I1, r1, q1⟩ => ?_)
 obtain ⟨c, rfl, q1⟩ := q1
 cases r1
 refine wpAny_truthy_bool ?_
 cases c with
 | false => exact hb pins s1 σ H1 Q I1 q1
 | true => exact ⟨.bl true, H1, I1, rfl, q1⟩
noncomputable def tIf (t : TT) (ta tb : TE) : TE := fun σ H Q => t σ H fun c H1 => if c = true then ta σ H1 Q else tb σ H1 Q
theorem pe_ifExp {c : Expr} (hc : PT X c tA) (ha : PE X a ta) (hb : PE X b tb) : PE X (.IfExp c a b pos) (tIf tA ta tb) := by
 (first | refine ⟨?_⟩ | skip); intro pins s σ H Q I h
 refine wpAny_IfExp (thn (hc pins s σ H _ I h) fun d s1 ⟨H1, I1, q1⟩ => ?_)
 cases d with
 | true => exact ha pins s1 σ H1 Q I1 q1
 | false => exact hb pins s1 σ H1 Q I1 q1
end
end L2
namespace L2
open PySem PySem.Spec PyProof.Rows
noncomputable def SqL (K : PySem.W.Frag) (H : Hp) (a : Addr) (xs : List V) : Prop :=
 Rd H a (.lst xs) \/
  ∃ (o : Obj) (its : Array Value) (n : Nat), K.lookup a = some o /\ o.cls = .type "list" /\ o.dict = none /\ o.data = .seq its n /\ its.size <= sizeLine /\ Vals xs its.toList
noncomputable def SqT (K : PySem.W.Frag) (H : Hp) (a : Addr) (xs : List V) : Prop :=
 Rd H a (.tup xs) \/
  ∃ (o : Obj) (its : Array Value) (n : Nat), K.lookup a = some o /\ o.cls = .type "tuple" /\ o.data = .seq its n /\ its.size <= sizeLine /\ Vals xs its.toList
noncomputable def absV : Value -> Option V
 | .none => some .non
 | .bool b => some (.bl b)
 | .int i _ => some (.int i)
 | .str x _ => some (.str x)
 | .bytes b _ => some (.byt b)
 | .float b _ => some (.flt b)
 | .ref a => some (.ref a)
 | .type n => some (.ty n)
 | _ => none
theorem RelV.abs {x : V} {u : Value} (r : RelV x u) : absV u = some x := by
 cases x with
 | non => cases r; rfl
 | bl _ => cases r; rfl
 | int _ => obtain ⟨t, rfl⟩ := r; rfl
 | str _ => obtain ⟨t, rfl⟩ := r; rfl
 | byt _ => obtain ⟨t, rfl⟩ := r; rfl
 | flt _ => obtain ⟨t, rfl⟩ := r; rfl
 | ref _ => cases r; rfl
 | ty _ => cases r; rfl
theorem RelV.inj {x y : V} {u : Value} (r : RelV x u) (q : RelV y u) : x = y := Option.some.inj (r.abs.symm.trans q.abs)
theorem Vals.inj : ∀ {xs ys : List V} {us : List Value}, Vals xs us -> Vals ys us -> xs = ys
 | _, _, _, .nil, .nil => rfl
 | _, _, _, .cons r t, .cons r' t' => by rw [r.inj r', Vals.inj t t']
section
variable {X : Cx} {pins : List (Addr × Obj)} {σ : St} {H : Hp} {s : Shared} {a : Addr} {xs ys : List V}
theorem SqL.of {K : PySem.W.Frag} (h : H a = some (.lst xs)) : SqL K H a xs := .inl (.inl h)
theorem SqT.of {K : PySem.W.Frag} (h : H a = some (.tup xs)) : SqT K H a xs := .inl (.inl h)
theorem Inv.list (I : Inv X pins σ H s) (h : SqL X.K H a xs) : ∃ its : List Value, Vals xs its /\ PlainL s.heap a its.toArray /\ xs.length <= sizeLine := by
 rcases h with h | ⟨o, its, n, hk, hc, hd, hs, hz, r⟩
 ·obtain ⟨z, its, n, r, e⟩ := h.ok I.hok
  exact ⟨its, r, ⟨_, n, e, rfl, rfl, rfl⟩, z⟩
 ·refine ⟨its.toList, r, ⟨o, n, I.kIn a o hk, hc, hd, by simpa using hs⟩, ?_⟩
  have e := r.length
  simp only [Array.length_toList] at e
  omega
theorem Inv.tuple (I : Inv X pins σ H s) (h : SqT X.K H a xs) : ∃ its : List Value, Vals xs its /\ IsTup s.heap a its.toArray /\ xs.length <= sizeLine := by
 rcases h with h | ⟨o, its, n, hk, hc, hs, hz, r⟩
 ·obtain ⟨z, its, r, p⟩ := h.ok I.hok
  exact ⟨its, r, p.tup, z⟩
 ·refine ⟨its.toList, r, ⟨o, I.kIn a o hk, hc, n, by simpa using hs⟩, ?_⟩
  have e := r.length
  simp only [Array.length_toList] at e
  omega
theorem Inv.list_inj (I : Inv X pins σ H s) (h : SqL X.K H a xs) (h' : SqL X.K H a ys) : xs = ys := by
 obtain ⟨its, r, ⟨o, n, e, _, _, d⟩, _⟩ := I.list h
 obtain ⟨its', r', ⟨o', n', e', _, _, d'⟩, _⟩ := I.list h'
 rw [e] at e'; cases e'
 rw [d] at d'
 injection d' with d1 _
 have : its = its' := by simpa using congrArg Array.toList d1
 subst this
 exact r.inj r'
theorem Inv.tuple_inj (I : Inv X pins σ H s) (h : SqT X.K H a xs) (h' : SqT X.K H a ys) : xs = ys := by
 obtain ⟨its, r, ⟨o, e, _, n, d⟩, _⟩ := I.tuple h
 obtain ⟨its', r', ⟨o', e', _, n', d'⟩, _⟩ := I.tuple h'
 rw [e] at e'; cases e'
 rw [d] at d'
 injection d' with d1 _
 have : its = its' := by simpa using congrArg Array.toList d1
 subst this
 exact r.inj r'
end
noncomputable abbrev Cx.wish (X : Cx) (E : Value -> Shared -> Prop) : Cx := { X with xe := E }
noncomputable abbrev Cx.nox (X : Cx) : Cx := X.wish fun _ _ => False
theorem Cx.Ok.wish {X : Cx} (ok : X.Ok) (E : Value -> Shared -> Prop) : (X.wish E).Ok :=
 ⟨ok.mod, ok.kind, ok.glob, ok.blt, ok.above, ok.inj, ok.has, ok.cab, ok.hd, ok.frames, ok.stk, ok.exf, ok.bs, ok.bsz, ok.noex, ok.exfs, ok.funs, ok.frf⟩
theorem Cx.Ok.unwish {X : Cx} {E : Value -> Shared -> Prop} (ok : (X.wish E).Ok) : X.Ok :=
 ⟨ok.mod, ok.kind, ok.glob, ok.blt, ok.above, ok.inj, ok.has, ok.cab, ok.hd, ok.frames, ok.stk, ok.exf, ok.bs, ok.bsz, ok.noex, ok.exfs, ok.funs, ok.frf⟩
section
variable {X : Cx} {pins : List (Addr × Obj)} {σ : St} {H : Hp} {s : Shared} {E : Value -> Shared -> Prop}
theorem Inv.wish (I : Inv X pins σ H s) (E : Value -> Shared -> Prop) : Inv (X.wish E) pins σ H s := ⟨I.ok.wish E, I.os, I.bare, I.base, I.loc, I.cell, I.free, I.freeC, I.pin, I.hok, I.len⟩
theorem Inv.unwish (I : Inv (X.wish E) pins σ H s) : Inv X pins σ H s := ⟨I.ok.unwish, I.os, I.bare, I.base, I.loc, I.cell, I.free, I.freeC, I.pin, I.hok, I.len⟩
theorem SP.unwish {D : Ends} {f : Flow} {s' : Shared} (h : SP (X.wish E) pins D f s') : SP X pins D f s' := by
 cases f with
 | next => obtain ⟨σ', H', I, q⟩ := h; exact ⟨σ', H', I.unwish, q⟩
 | brk => obtain ⟨σ', H', I, q⟩ := h; exact ⟨σ', H', I.unwish, q⟩
 | cont => obtain ⟨σ', H', I, q⟩ := h; exact ⟨σ', H', I.unwish, q⟩
 | ret u => obtain ⟨v, σ', H', I, r, q⟩ := h; exact ⟨v, σ', H', I.unwish, r, q⟩
theorem PSs.nox {st : List Stmt} {t : TS} (h : PSs X.nox st t) : PSs X st t := .mk <| fun pins s σ H D I hw =>
 wpAny_mono (h pins s σ H D (I.wish _) hw) (fun _ _ q => q.unwish) fun _ _ z => False.elim z
end
section
variable {X : Cx} {st : Stmt} {rest : List Stmt} {t u : TS} {e : Expr} {te : TE} {pos : Pos}
noncomputable def tNext : TS := fun D σ H => D.nx σ H
noncomputable def tSeq (t u : TS) : TS := fun D σ H => t { D with nx := u D } σ H
theorem pss_nil : PSs X [] tNext := .mk <| fun _ _ σ H _ I h => wpAny_execs_nil ⟨σ, H, I, h⟩
theorem pss_cons (h1 : PS X st t) (h2 : PSs X rest u) : PSs X (st :: rest) (tSeq t u) := by
 (first | refine ⟨?_⟩ | skip); intro pins s σ H D I h
 refine wpAny_execs_cons (thn (h1 pins s σ H { D with nx := u D } I h) fun f s1 q => ?_)
 cases f with
 | next =>
  obtain ⟨σ', H', I', q⟩ := q
  exact h2 pins s1 σ' H' D I' q
 | ret v => exact q
 | brk => exact q
 | cont => exact q
theorem pss_one (h1 : PS X st t) : PSs X [st] t := by
 (first | refine ⟨?_⟩ | skip); intro pins s σ H D I h
 refine wpAny_execs_cons (thn (h1 pins s σ H D I h) fun f s1 q => ?_)
 cases f with
 | next => exact wpAny_execs_nil q
 | ret v => exact q
 | brk => exact q
 | cont => exact q
theorem Inv.quiet {pins : List (Addr × Obj)} {σ : St} {H : Hp} {s : Shared} (I : Inv X pins σ H s) : interactive X.env = false := by simp [interactive, I.ok.kind]
noncomputable def tDrop (te : TE) : TS := fun D σ H => te σ H fun _ H1 => D.nx σ H1
theorem ps_expr (he : PE X e te) (hs : swapsWith e none pos.line X.env = pure false := by rfl) : PS X (.Expr e pos) (tDrop te) := by
 (first | refine ⟨?_⟩ | skip); intro pins s σ H D I h
 exact wpAny_Expr_any (thn (he pins s σ H _ I h) fun v s1 ⟨x, H1, I1, r1, q1⟩ => ⟨σ, H1, I1, q1⟩) I.quiet hs
noncomputable def tRet (te : TE) : TS := fun D σ H => te σ H D.rt
theorem ps_ret (he : PE X e te) : PS X (.Return (some e) pos) (tRet te) := by
 (first | refine ⟨?_⟩ | skip); intro pins s σ H D I h
 exact wpAny_Return_some (thn (he pins s σ H _ I h) fun v s1 ⟨x, H1, I1, r1, q1⟩ => ⟨x, σ, H1, I1, r1, q1⟩)
noncomputable def tIfS (c : TT) (t u : TS) : TS := fun D σ H => c σ H fun b H1 => if b = true then t D σ H1 else u D σ H1
theorem ps_if {c : Expr} {a b : List Stmt} {tc : TT} (hc : PT X c tc) (ha : PSs X a t) (hb : PSs X b u) : PS X (.If c a b pos) (tIfS tc t u) := by
 (first | refine ⟨?_⟩ | skip); intro pins s σ H D I h
 refine wpAny_If (thn (hc pins s σ H _ I h) fun d s1 ⟨H1, I1, q1⟩ => ?_)
 cases d with
 | true => exact ha pins s1 σ H1 D I1 q1
 | false => exact hb pins s1 σ H1 D I1 q1
end
noncomputable abbrev TG := V -> St -> Hp -> (St -> Hp -> Prop) -> Prop
noncomputable abbrev TGs := List V -> St -> Hp -> (St -> Hp -> Prop) -> Prop
noncomputable def PG (X : Cx) (target : Expr) (t : TG) : Prop :=
 ∀ (pins : List (Addr × Obj)) (s : Shared) (σ : St) (H : Hp) (v : V) (u : Value) (Q : St -> Hp -> Prop), Inv X pins σ H s -> RelV v u -> t v σ H Q ->
  wpAny (model X.prog X.w) X.A (assign target X.env u) (fun _ s' => ∃ σ' H', Inv X pins σ' H' s' /\ Q σ' H') X.xe s
noncomputable def PGs (X : Cx) (ts : List Expr) (t : TGs) : Prop :=
 ∀ (pins : List (Addr × Obj)) (s : Shared) (σ : St) (H : Hp) (vs : List V) (us : List Value) (Q : St -> Hp -> Prop), Inv X pins σ H s -> Vals vs us -> t vs σ H Q ->
  wpAny (model X.prog X.w) X.A (assignInOrder ((assignEach ts X.env).map (·.2)) us) (fun _ s' => ∃ σ' H', Inv X pins σ' H' s' /\ Q σ' H') X.xe s
noncomputable abbrev TSet := V -> V -> V -> Hp -> (Hp -> Prop) -> Prop
noncomputable def PSet (X : Cx) (t : TSet) : Prop :=
 ∀ (pins : List (Addr × Obj)) (s : Shared) (σ : St) (H : Hp) (o i v : V) (ov iv u : Value) (Q : Hp -> Prop), Inv X pins σ H s -> RelV o ov -> RelV i iv -> RelV v u -> t o i v H Q ->
  wpAny (model X.prog X.w) X.A (setItem ov iv u) (fun _ s' => ∃ H', Inv X pins σ H' s' /\ Q H') X.xe s
section
variable {X : Cx} {pos : Pos}
noncomputable def gName (i : Nat) : TG := fun v σ H Q => Q (σ.set i (some v)) H
theorem pg_name {i : Nat} {x : Str} (hN : X.N.Nodup) (hi : X.N[i]? = some x) (hx : Loc X.env.scope x) (hf : X.fn x = true \/ X.env.scope.names.lookup x = some .local := by first | exact .inl rfl | exact .inr rfl | assumption) : PG X (.Name x pos) (gName i) := by
 (first | refine ⟨?_⟩ | skip); intro pins s σ H v u Q I r h
 exact wpAny_assign_Name (store_ok I hN hi hx r (fun s' I' => ⟨_, H, I', h⟩) hf)
noncomputable def gNil : TGs := fun vs σ H Q => vs = [] /\ Q σ H
noncomputable def gCons (t : TG) (u : TGs) : TGs := fun vs σ H Q => ∃ v r, vs = v :: r /\ t v σ H fun σ' H' => u r σ' H' Q
theorem pgs_nil : PGs X [] gNil := by
 (first | refine ⟨?_⟩ | skip); intro pins s σ H vs us Q I r h
 obtain ⟨e, h⟩ := h
 subst e
 cases r
 exact assignInOrder_nil ⟨σ, H, I, h⟩
theorem pgs_cons {e : Expr} {es : List Expr} {t : TG} {u : TGs} (h1 : PG X e t) (h2 : PGs X es u)
  (hs : (assignEach (e :: es) X.env).map (·.2) = assign e X.env :: (assignEach es X.env).map (·.2) := by rfl) : PGs X (e :: es) (gCons t u) := by
 (first | refine ⟨?_⟩ | skip); intro pins s σ H vs us Q I r h
 obtain ⟨v, vr, e1, h⟩ := h
 subst e1
 cases r with
 | cons r rr =>
  rw [hs]
  refine assignInOrder_cons (thn (h1 pins s σ H _ _ _ I r h) fun _ s1 ⟨σ1, H1, I1, q1⟩ => ?_)
  exact h2 pins s1 σ1 H1 _ _ Q I1 rr q1
noncomputable def gTup (K : PySem.W.Frag) (n : Nat) (t : TGs) : TG := fun v σ H Q => ∃ a xs, v = .ref a /\ SqT K H a xs /\ xs.length = n /\ t xs σ H Q
theorem pg_tup {es : List Expr} {k : Nat} {t : TGs} {n : Nat} (hc : X.calm = true) (h : PGs X es t)
  (hn : (assignEach es X.env).length = n := by rfl) (hst : (assignEach es X.env).findIdx? (·.1) = none := by rfl) : PG X (.Tuple es k pos) (gTup X.K n t) := by
 (first | refine ⟨?_⟩ | skip); intro pins s σ H v u Q I r hw
 obtain ⟨a, xs, e1, hq, hl, hw⟩ := hw
 subst e1
 cases r
 obtain ⟨its, rv, ht, hz⟩ := I.tuple hq
 refine assign_Tuple_tuple (I.ok.hd hc) ht (by simp [hn, ← hl, rv.length]) hst fun h' hx => ?_
 have I1 : Inv X pins σ H { s with heap := h' } := I.kept (t' := s.toks) fun b o e => hx b o (Nat.ne_of_lt (Heap.lt_size e)) e
 exact h pins _ σ H xs _ Q I1 (by simpa using rv) hw
noncomputable def gSub (to ti : TE) (t : TSet) : TG := fun v σ H Q => to σ H fun o H1 => ti σ H1 fun i H2 => t o i v H2 fun H3 => Q σ H3
theorem pg_sub {o i : Expr} {to ti : TE} {t : TSet} (ho : PE X o to) (hi : PE X i ti) (hs : PSet X t)
  (ha : ∀ v, assign (.Subscript o i pos) X.env v = (do
   let ov ← holding [v] (eval o X.env)
   let iv ← holding [v, ov] (eval i X.env)
   standAt pos
   holding [v, ov, iv] (setItem ov iv v)
   release [v, ov, iv] []) := by intro _; rfl) : PG X (.Subscript o i pos) (gSub to ti t) := by
 (first | refine ⟨?_⟩ | skip); intro pins s σ H v u Q I r h
 rw [ha]
 refine wpAny_bind (wpAny_holding (thn (ho pins s σ H _ I h) fun ov s1 ⟨x, H1, I1, r1, q1⟩ => ?_))
 refine wpAny_bind (wpAny_holding (thn (hi pins s1 σ H1 _ I1 q1) fun iv s2 ⟨y, H2, I2, r2, q2⟩ => ?_))
 refine wpAny_bind (wpAny_standAt (wpAny_bind (wpAny_holding (thn (hs pins s2 σ H2 x y v ov iv u _ I2 r1 r2 r q2) fun _ s3 ⟨H3, I3, q3⟩ => ?_))))
 exact wpAny_release ⟨σ, H3, I3, q3⟩
noncomputable def tAsg (te : TE) (g : TG) : TS := fun D σ H => te σ H fun x H1 => g x σ H1 D.nx
theorem ps_asg {tg e : Expr} {te : TE} {g : TG} (he : PE X e te) (hg : PG X tg g) (hs : swapsWithSole [tg] e pos.line X.env = pure false := by rfl) (hw : swappedStores [tg] e X.env = pure none := by rfl)
  (h1 : (assignEach [tg] X.env).map (·.2) = [assign tg X.env] := by rfl) : PS X (.Assign [tg] e pos) (tAsg te g) := by
 (first | refine ⟨?_⟩ | skip); intro pins s σ H D I h
 refine wpAny_Assign_stores (thn (he pins s σ H _ I h) fun v s1 ⟨x, H1, I1, r1, q1⟩ => ?_) hs hw
 rw [h1]
 exact thn (hg pins s1 σ H1 x v _ I1 r1 q1) fun _ s2 q => q
theorem ps_set {i : Nat} {x : Str} {e : Expr} {te : TE} {pos' : Pos} (hN : X.N.Nodup) (hi : X.N[i]? = some x) (hx : Loc X.env.scope x) (he : PE X e te) (hs : swapsWith e (some (.Name x pos')) pos.line X.env = pure false := by rfl) (hf : X.fn x = true \/ X.env.scope.names.lookup x = some .local := by first | exact .inl rfl | exact .inr rfl | assumption) :
  PS X (.Assign [.Name x pos'] e pos) (tAsg te (gName i)) := by
 (first | refine ⟨?_⟩ | skip); intro pins s σ H D I h
 refine wpAny_Assign_Name (thn (he pins s σ H _ I h) fun v s1 ⟨y, H1, I1, r1, q1⟩ => ?_) hs
 exact store_ok I1 hN hi hx r1 (fun s2 I2 => ⟨_, H1, I2, q1⟩) hf
end
structure It where
 go : Nat -> Hp -> Prop
 yld : Nat -> Hp -> V -> Hp -> Prop
 stop : Nat -> Hp -> Prop
noncomputable def FpOk (X : Cx) (pins : List (Addr × Obj)) (H : Hp) (b : Addr) : Prop :=
 H b = none /\ b ≠ X.env.locals /\ b ∉ X.fs /\ (b ∈ X.ex \/ X.s₀.heap.objs.size <= b) /\ (∀ x c, X.env.cells.lookup x = some c -> c ≠ b) /\ ∀ p ∈ X.pn ++ pins, p.1 ≠ b
theorem Inv.fpOk {X : Cx} {pins : List (Addr × Obj)} {σ : St} {H H' : Hp} {s : Shared} {b : Addr} (I : Inv X pins σ H s) (hb : s.heap.objs.size <= b) (hn : H' b = none) : FpOk X pins H' b := by
 refine ⟨hn, Nat.ne_of_gt (Nat.lt_of_lt_of_le I.lt hb), I.nofs hb, .inr (Nat.le_trans I.sz hb), fun x c e z => ?_, fun p hp z => ?_⟩
 ·obtain ⟨v, q⟩ := I.cell x c e
  exact absurd (Nat.lt_of_lt_of_le q.lt (by rw [z]; exact hb)) (Nat.lt_irrefl _)
 ·exact absurd (Nat.lt_of_lt_of_le (Heap.lt_size (I.pin p hp).1) (by rw [z]; exact hb)) (Nat.lt_irrefl _)
structure Turn (P : Program) (w : World) (K : PySem.W.Frag) (tg : Expr) (J : It) (fp : List Addr) (it : Addr) (tn : Nat -> Heap -> Prop) : Prop where
 mem : it ∈ fp
 obj : ∀ i h, tn i h -> ∀ b ∈ fp, ∃ o, h.get? b = some o /\ ∀ v, o.data ≠ .cell v
 keep : ∀ i h h', tn i h -> (∀ b ∈ fp, ∀ o, h.get? b = some o -> h'.get? b = some o) -> tn i h'
 item : ∀ (X : Cx), X.prog = P -> X.w = w -> X.K = K -> X.calm = true -> ∀ (i : Nat) (pins : List (Addr × Obj)) (s : Shared) (σ : St) (H : Hp) (E : Value -> Shared -> Prop), Inv X pins σ H s -> (∀ b ∈ fp, FpOk X pins H b) -> tn i s.heap -> J.go i H ->
  wpAny (model P w) X.A (pyNext (.ref it)) (fun r s1 => ∃ u, r = some u /\
   wpAny (model P w) X.A (letOwnedTupleGo tg (.ref it) u) (fun _ s2 => ∃ x H', Inv X pins σ H' s2 /\ RelV x u /\ J.yld i H x H' /\ tn (i + 1) s2.heap /\ ∀ b ∈ fp, H' b = none) E s1) E s
 done : ∀ (X : Cx), X.prog = P -> X.w = w -> X.K = K -> X.calm = true -> ∀ (i : Nat) (pins : List (Addr × Obj)) (s : Shared) (σ : St) (H : Hp) (E : Value -> Shared -> Prop), Inv X pins σ H s -> (∀ b ∈ fp, FpOk X pins H b) -> tn i s.heap -> J.stop i H ->
  wpAny (model P w) X.A (pyNext (.ref it)) (fun r s1 => r = none /\ Inv X pins σ H s1) E s
 self : ∀ (A : Around) (i : Nat) (s : Shared) (Q : Value -> Shared -> Prop) (E : Value -> Shared -> Prop), tn i s.heap -> Q (.ref it) s -> wpAny (model P w) A (pyIter (.ref it)) Q E s
noncomputable abbrev TI := St -> Hp -> (It -> Hp -> Prop) -> Prop
noncomputable def PIE (X : Cx) (pins : List (Addr × Obj)) (σ : St) (tg : Expr) (R : It -> Hp -> Prop) (itv : Value) (s2 : Shared) : Prop :=
 ∃ (it : Addr) (fp : List Addr) (tn : Nat -> Heap -> Prop) (J : It) (H' : Hp), itv = .ref it /\ Inv X pins σ H' s2 /\ Turn X.prog X.w X.K tg J fp it tn /\ tn 0 s2.heap /\ (∀ b ∈ fp, FpOk X pins H' b) /\ R J H'
noncomputable def PI (X : Cx) (tg iter : Expr) (wi : TI) : Prop :=
 ∀ (pins : List (Addr × Obj)) (s : Shared) (σ : St) (H : Hp) (R : It -> Hp -> Prop), Inv X pins σ H s -> wi σ H R ->
  wpAny (model X.prog X.w) X.A (eval iter X.env) (fun v s1 => wpAny (model X.prog X.w) X.A (pyIter v) (PIE X pins σ tg R) X.xe s1) X.xe s
theorem go_of {M : Model} {A : Around} {E : Value -> Shared -> Prop} {s : Shared} {tg : Expr} {it : Addr} {u : Value} {o : Obj} {n : String} {vs : Array Value} {Q : Unit -> Shared -> Prop} (ho : s.heap.get? it = some o) (hc : o.cls = .type n) (hd : o.data = .fields vs)
  (hn : ["enumerate", "zip", "dict_itemiterator", "dict_reverseitemiterator", "odict_iterator", "itertools.zip_longest", "itertools.pairwise"].contains n = false) (hQ : Q () s) : wpAny M A (letOwnedTupleGo tg (.ref it) u) Q E s := by
 unfold letOwnedTupleGo
 cases tg <;> first
  | exact wpAny_pure hQ
  | (cases u <;> first
    | exact wpAny_pure hQ
    | (refine wpAny_bind (wpAny_load ho ?_)
       rw [hc, hd]
       show wpAny M A (if (["enumerate", "zip", "dict_itemiterator", "dict_reverseitemiterator", "odict_iterator", "itertools.zip_longest", "itertools.pairwise"].contains n && vs[0]? == some (rawInt _)) = true then _ else _) Q E s
       rw [if_neg (by intro h; rw [hn, Bool.false_and] at h; cases h)]
       exact wpAny_pure hQ))
noncomputable def Itl (K : PySem.W.Frag) (a : Addr) : It :=
 ⟨fun i H => ∃ xs x, SqL K H a xs /\ xs[i]? = some x, fun i H x H' => H' = H /\ ∀ xs, SqL K H a xs -> xs[i]? = some x, fun i H => ∃ xs, SqL K H a xs /\ xs.length <= i⟩
noncomputable def Itt (K : PySem.W.Frag) (a : Addr) : It :=
 ⟨fun i H => ∃ xs x, SqT K H a xs /\ xs[i]? = some x, fun i H x H' => H' = H /\ ∀ xs, SqT K H a xs -> xs[i]? = some x, fun i H => ∃ xs, SqT K H a xs /\ xs.length <= i⟩
noncomputable def Itr (lo : Int) (n : Nat) : It := ⟨fun i _ => i < n, fun i H x H' => H' = H /\ x = .int (lo + i), fun i _ => n <= i⟩
theorem turn_list {P : Program} {w : World} {K : PySem.W.Frag} {tg : Expr} (a it : Addr) : Turn P w K tg (Itl K a) [it] it (fun i h => h.IsListIter it a i) where
 mem := by simp
 obj := fun i h st b hb => by
  have e : b = it := by simpa using hb
  subst e
  obtain ⟨o, e, c, d⟩ := st
  exact ⟨o, e, fun v z => by rw [d] at z; cases z⟩
 keep := fun i h h' st k => st.at fun o e => k it (by simp) o e
 item := by
  intro X hP hw hK hc i pins s σ H E I hf st hg
  subst hP hw hK
  obtain ⟨xs, x, hq, hx⟩ := hg
  obtain ⟨its, rv, p, hz⟩ := I.list hq
  obtain ⟨u, hu, ru⟩ := rv.get hx
  obtain ⟨f0, f1, f2, f3, f4, f5⟩ := hf it (by simp)
  refine wpAny_pyNext_list_item st p.isList (x := u) (by simpa using hu) fun h' st' sb => ?_
  have I1 : Inv X pins σ H { s with heap := h' } := I.turned (t' := s.toks) (fun b o hb e => (sb.2 b hb).trans e) f0 f1 f3 f4 f5
  obtain ⟨o, e, c, d⟩ := id st'
  exact ⟨u, rfl, go_of (s := { s with heap := h' }) e c d (by decide) ⟨x, H, I1, ru, ⟨rfl, fun ys hy => by rw [I.list_inj hy hq]; exact hx⟩, st', fun b hb => (hf b hb).1⟩⟩
 done := by
  intro X hP hw hK hc i pins s σ H E I hf st hg
  subst hP hw hK
  obtain ⟨xs, hq, hx⟩ := hg
  obtain ⟨its, rv, p, hz⟩ := I.list hq
  obtain ⟨f0, f1, f2, f3, f4, f5⟩ := hf it (by simp)
  have hl := rv.length
  exact wpAny_pyNext_list_end (I.ok.hd hc) st p.isList (by simp; omega) fun h' eb => ⟨rfl, I.turned (t' := s.toks) (fun b o hb e => eb b o hb e) f0 f1 f3 f4 f5⟩
 self := fun _ _ _ _ _ st h => wpAny_pyIter_listiter st h
theorem turn_tuple {P : Program} {w : World} {K : PySem.W.Frag} {tg : Expr} (a it : Addr) : Turn P w K tg (Itt K a) [it] it (fun i h => h.IsTupleIter it a i) where
 mem := by simp
 obj := fun i h st b hb => by
  have e : b = it := by simpa using hb
  subst e
  obtain ⟨o, e, c, d⟩ := st
  exact ⟨o, e, fun v z => by rw [d] at z; cases z⟩
 keep := fun i h h' st k => st.at fun o e => k it (by simp) o e
 item := by
  intro X hP hw hK hc i pins s σ H E I hf st hg
  subst hP hw hK
  obtain ⟨xs, x, hq, hx⟩ := hg
  obtain ⟨its, rv, p, hz⟩ := I.tuple hq
  obtain ⟨u, hu, ru⟩ := rv.get hx
  obtain ⟨f0, f1, f2, f3, f4, f5⟩ := hf it (by simp)
  refine wpAny_pyNext_tuple_item st (show s.heap.IsTuple a its.toArray from p) (x := u) (by simpa using hu) fun h' st' sb => ?_
  have I1 : Inv X pins σ H { s with heap := h' } := I.turned (t' := s.toks) (fun b o hb e => (sb.2 b hb).trans e) f0 f1 f3 f4 f5
  obtain ⟨o, e, c, d⟩ := id st'
  exact ⟨u, rfl, go_of (s := { s with heap := h' }) e c d (by decide) ⟨x, H, I1, ru, ⟨rfl, fun ys hy => by rw [I.tuple_inj hy hq]; exact hx⟩, st', fun b hb => (hf b hb).1⟩⟩
 done := by
  intro X hP hw hK hc i pins s σ H E I hf st hg
  subst hP hw hK
  obtain ⟨xs, hq, hx⟩ := hg
  obtain ⟨its, rv, p, hz⟩ := I.tuple hq
  obtain ⟨f0, f1, f2, f3, f4, f5⟩ := hf it (by simp)
  have hl := rv.length
  exact wpAny_pyNext_tuple_end (I.ok.hd hc) st (show s.heap.IsTuple a its.toArray from p) (by simp; omega) fun h' eb => ⟨rfl, I.turned (t' := s.toks) (fun b o hb e => eb b o hb e) f0 f1 f3 f4 f5⟩
 self := fun _ _ _ _ _ st h => wpAny_pyIter_tupleiter st h
theorem turn_range {P : Program} {w : World} {K : PySem.W.Frag} {tg : Expr} (it : Addr) (lo : Int) (n : Nat) : Turn P w K tg (Itr lo n) [it] it (fun i h => IsRangeIter h it (lo + (i : Nat) * 1) ((n : Int) - (i : Nat)) 1) where
 mem := by simp
 obj := fun i h st b hb => by
  have e : b = it := by simpa using hb
  subst e
  exact ⟨_, st, fun v z => by
   have z' : Data.fields _ = Data.cell v := z
   cases z'⟩
 keep := fun i h h' st k => k it (by simp) _ st
 item := by
  intro X hP hw hK hc i pins s σ H E I hf st hg
  subst hP hw hK
  obtain ⟨f0, f1, f2, f3, f4, f5⟩ := hf it (by simp)
  have W := Walks.range (prog := X.prog) (w := X.w) (I.ok.hd hc) it lo 1 n
  refine W.item i s _ _ hg st fun v h' tk hv st' kk => ?_
  obtain ⟨t, rfl⟩ := hv
  have I1 : Inv X pins σ H { s with heap := h', toks := tk } := I.turned (fun b o hb e => kk b o (by simpa using hb) e) f0 f1 f3 f4 f5
  refine ⟨_, rfl, go_of (s := { s with heap := h', toks := tk }) (n := "range_iterator") st' rfl rfl (by decide) ⟨.int (lo + i), H, I1, ⟨t, ?_⟩, ⟨rfl, rfl⟩, st', fun b hb => (hf b hb).1⟩⟩
  rw [Int.mul_one]
 done := by
  intro X hP hw hK hc i pins s σ H E I hf st hg
  subst hP hw hK
  obtain ⟨f0, f1, f2, f3, f4, f5⟩ := hf it (by simp)
  exact wpAny_pyNext_range_end (I.ok.hd hc) st (by have : n <= i := hg; omega) fun h' eb => ⟨rfl, I.turned (t' := s.toks) (fun b o hb e => eb b o hb e) f0 f1 f3 f4 f5⟩
 self := fun _ _ _ _ _ st h => wpAny_pyIter_rangeiter st h
end L2
namespace L2
open PySem PySem.Spec PyProof.Rows
section
variable {X : Cx} {tg : Expr}
theorem range_it {pins : List (Addr × Obj)} {σ : St} {H : Hp} {s : Shared} {R : It -> Hp -> Prop} {E : Value -> Shared -> Prop} {lo hi : Int} {t u v : Tok} {tk : Nat} (I : Inv X pins σ H s) (h1 : -(2 ^ 62) <= lo) (h2 : lo < 2 ^ 62) (h3 : -(2 ^ 62) <= hi) (h4 : hi < 2 ^ 62)
  (q : R (Itr lo (hi - lo).toNat) H) : wpAny (model X.prog X.w) X.A (pyIter (.ref s.heap.objs.size)) (PIE X pins σ tg R) E { s with heap := s.heap.push { cls := .type "range", data := .fields #[.int lo t, .int hi u, .int 1 v] }, toks := tk } := by
 refine wpAny_pyIter_range (IsRange.new ..) (small_one h1 h2 h3 h4) ?_
 have I1 : Inv X pins σ H { s with heap := s.heap.push { cls := .type "range", data := .fields #[.int lo t, .int hi u, .int 1 v] }, toks := tk } := I.kept fun b o e => Heap.get?_push_of_some _ e
 refine ⟨(s.heap.push { cls := .type "range", data := .fields #[.int lo t, .int hi u, .int 1 v] }).objs.size, [(s.heap.push { cls := .type "range", data := .fields #[.int lo t, .int hi u, .int 1 v] }).objs.size], _, _, H, rfl,
  I1.kept (t' := tk) fun b o e => Heap.get?_push_of_some _ e, turn_range _ lo (hi - lo).toNat, ?_, fun b hb => ?_, q⟩
 ·have e1 : lo + ((0 : Nat) : Int) * 1 = lo := by simp
  have e2 : (((hi - lo).toNat : Nat) : Int) - ((0 : Nat) : Int) = Builtin.Range.rangeSize lo hi 1 := by rw [rangeSize_one]; split <;> omega
  show IsRangeIter _ _ (lo + ((0 : Nat) : Int) * 1) ((((hi - lo).toNat : Nat) : Int) - ((0 : Nat) : Int)) 1
  rw [e1, e2]
  exact Heap.get?_push_size _ rfl
 ·have e : b = (s.heap.push { cls := .type "range", data := .fields #[.int lo t, .int hi u, .int 1 v] }).objs.size := by simpa using hb
  subst e
  exact I1.fpOk (Nat.le_refl _) (I1.hok.fresh (Nat.le_refl _))
noncomputable def iRng1 (ta : TA) : TI := fun σ H R => ta σ H fun vs H1 => ∃ j : Int, vs = [.int j] /\ -(2 ^ 62) <= j /\ j < 2 ^ 62 /\ R (Itr 0 j.toNat) H1
theorem pi_range1 {a : Expr} {ta : TA} {p pos : Pos} (hg : Gl X "range") (hm : X.mg "range" = none) (ha : PA X [a] ta) (hs : starEach [a] X.env = [(false, eval a X.env)] := by rfl) : PI X tg (.Call (.Name "range" p) [a] [] pos) (iRng1 ta) := by
 (first | refine ⟨?_⟩ | skip); intro pins s σ H R I h
 refine Call_ (ld_blt I hg hm boot_range (PyProof.Rows.callWith_type1 (thn (ha pos pins s σ H _ I h) fun us s1 ⟨vs, H1, I1, r1, q1⟩ => ?_) hs rfl))
 obtain ⟨j, e, q1, q2, q⟩ := q1
 subst e
 cases r1 with
 | cons r rr =>
  cases rr
  obtain ⟨t, rfl⟩ := r
  exact call_range_1 (range_it I1 (by omega) (by omega) q1 q2 (by simpa using q))
noncomputable def tFor (wi : TI) (g : TG) (tb : TS) : TS := fun D σ H => wi σ H fun J H1 => ∃ W : Nat -> Nat -> St -> Hp -> Prop, (∃ m, W 0 m σ H1) /\ ∀ i m σ H, W i m σ H ->
 (J.stop i H /\ D.nx σ H) \/ (J.go i H /\ ∃ N : St -> Hp -> Prop, (∀ σ' H', N σ' H' -> ∃ m', m' < m /\ W (i + 1) m' σ' H') /\ ∀ x H', J.yld i H x H' -> g x σ H' fun σ2 H2 => tb { D with nx := N, ct := N, bk := D.nx } σ2 H2)
noncomputable def pinsAt (fp : List Addr) (h : Heap) : List (Addr × Obj) := fp.filterMap fun b => (h.get? b).map fun o => (b, o)
theorem mem_pinsAt {fp : List Addr} {h : Heap} {b : Addr} {o : Obj} (hb : b ∈ fp) (e : h.get? b = some o) : (b, o) ∈ pinsAt fp h := List.mem_filterMap.mpr ⟨b, hb, by rw [e]; rfl⟩
theorem of_pinsAt {fp : List Addr} {h : Heap} {p : Addr × Obj} (hp : p ∈ pinsAt fp h) : p.1 ∈ fp /\ h.get? p.1 = some p.2 := by
 obtain ⟨b, hb, e⟩ := List.mem_filterMap.mp hp
 cases q : h.get? b with
 | none => rw [q] at e; cases e
 | some o =>
  rw [q] at e
  have e' : (b, o) = p := Option.some.inj e
  subst e'
  exact ⟨hb, q⟩
theorem Inv.pinned {pins : List (Addr × Obj)} {σ : St} {H : Hp} {s : Shared} {fp : List Addr} (I : Inv X pins σ H s) (hf : ∀ b ∈ fp, FpOk X pins H b) (ho : ∀ b ∈ fp, ∃ o, s.heap.get? b = some o /\ ∀ v, o.data ≠ .cell v) : Inv X (pins ++ pinsAt fp s.heap) σ H s :=
 I.pins_of fun p hp => (List.mem_append.mp hp).elim (fun z => I.pin p (List.mem_append_right _ z)) fun z => by
  obtain ⟨hb, e⟩ := of_pinsAt z
  obtain ⟨f0, f1, f2, _⟩ := hf p.1 hb
  obtain ⟨o, e', d⟩ := ho p.1 hb
  rw [e] at e'; cases e'
  exact ⟨e, f0, f1, f2, d⟩
theorem Inv.unpinned {pins pl : List (Addr × Obj)} {σ : St} {H : Hp} {s : Shared} (I : Inv X (pins ++ pl) σ H s) : Inv X pins σ H s := I.pins_of fun p hp => I.pin p (List.mem_append_right _ (List.mem_append_left _ hp))
theorem ps_for {iter : Expr} {body : List Stmt} {wi : TI} {g : TG} {tb : TS} {pos : Pos} (hp : PassesOwn (model X.prog X.w) X.A X.env X.xe) (hc : X.calm = true) (hi : PI X tg iter wi) (hg : PG X tg g) (hb : PSs X body tb)
  (hs : ∀ x, foldedSetIterable iter X.env x = pure x := by intro _; rfl) : PS X (.For tg iter body [] pos) (tFor wi g tb) := by
 (first | refine ⟨?_⟩ | skip); intro pins s σ H D I h
 refine wpAny_For (thn (hi pins s σ H _ I h) fun v s1 h1 => thn h1 fun itv s2 h2 => ?_) hs
 obtain ⟨it, fp, tn, J, H2, e, I2, T, st2, f2, W, ⟨m0, w0⟩, turn⟩ := h2
 subst e
 -- what stays true of the iterator's objects through the loop
 have stat : ∀ {H' : Hp}, (∀ b ∈ fp, H' b = none) -> ∀ b ∈ fp, FpOk X pins H' b := fun hn b hb => ⟨hn b hb, (f2 b hb).2⟩
 refine codeAny_forLoop_any (fun n s' => ∃ i σ' H', Inv X pins σ' H' s' /\ tn i s'.heap /\ (∀ b ∈ fp, H' b = none) /\ W i n σ' H') ?_ m0 ⟨0, σ, H2, I2, st2, fun b hb => (f2 b hb).1, w0⟩
 rintro n s3 ⟨i, σ3, H3, I3, st3, fr3, w3⟩
 rcases turn i n σ3 H3 w3 with ⟨stop, qn⟩ | ⟨go, N, hN, step⟩
 ·refine wpAny_passesOwn hp (thn (T.done X rfl rfl rfl hc i pins s3 σ3 H3 X.xe I3 (stat fr3) st3 stop) fun r s4 ⟨hr, I4⟩ => ?_)
  subst hr
  exact wpAny_execs_nil ⟨σ3, H3, I4, qn⟩
 ·refine wpAny_passesOwn hp (thn (T.item X rfl rfl rfl hc i pins s3 σ3 H3 X.xe I3 (stat fr3) st3 go) fun r s4 ⟨u, hr, h4⟩ => ?_)
  subst hr
  refine wpAny_passesOwn hp (thn h4 fun _ s5 ⟨x, H5, I5, r5, y5, st5, fr5⟩ => ?_)
  have I5' := I5.pinned (stat fr5) (T.obj _ _ st5)
  refine wpAny_passesOwn hp (thn (hg _ s5 σ3 H5 x u _ I5' r5 (step x H5 y5)) fun _ s6 ⟨σ6, H6, I6, q6⟩ => ?_)
  refine wpAny_passesOwn hp (thn (hb _ s6 σ6 H6 _ I6 q6) fun f s7 q7 => ?_)
  have again : ∀ {σ7 : St} {H7 : Hp}, Inv X (pins ++ pinsAt fp s5.heap) σ7 H7 s7 -> N σ7 H7 -> ∃ m, m < n /\ ∃ i σ' H', Inv X pins σ' H' s7 /\ tn i s7.heap /\ (∀ b ∈ fp, H' b = none) /\ W i m σ' H' := fun {σ7 H7} I7 n7 => by
   obtain ⟨m', hm, w7⟩ := hN σ7 H7 n7
   refine ⟨m', hm, i + 1, σ7, H7, I7.unpinned, T.keep _ _ _ st5 fun b hb o e => (I7.pin (b, o) (List.mem_append_right _ (List.mem_append_right _ (mem_pinsAt hb e)))).1, fun b hb => ?_, w7⟩
   obtain ⟨o, e, d⟩ := T.obj _ _ st5 b hb
   exact (I7.pin (b, o) (List.mem_append_right _ (List.mem_append_right _ (mem_pinsAt hb e)))).2.1
  cases f with
  | next => obtain ⟨σ7, H7, I7, n7⟩ := q7; exact again I7 n7
  | cont => obtain ⟨σ7, H7, I7, n7⟩ := q7; exact again I7 n7
  | brk => obtain ⟨σ7, H7, I7, q7⟩ := q7; exact ⟨σ7, H7, I7.unpinned, q7⟩
  | ret v => obtain ⟨x7, σ7, H7, I7, r7, q7⟩ := q7; exact ⟨x7, σ7, H7, I7.unpinned, r7, q7⟩
end
end L2
namespace L2
open PySem PySem.Spec PyProof.Rows
noncomputable abbrev R2 := V -> V -> Hp -> VK -> Prop
noncomputable def OpR (X : Cx) (f : Value -> Value -> Sem Value) (r : R2) : Prop :=
 ∀ (pins : List (Addr × Obj)) (s : Shared) (σ : St) (H : Hp) (x y : V) (v u : Value) (Q : VK), Inv X pins σ H s -> RelV x v -> RelV y u -> r x y H Q ->
  wpAny (model X.prog X.w) X.A (f v u) (EP X pins σ Q) X.xe s
noncomputable def UnR (X : Cx) (f : Value -> Sem Value) (r : V -> Hp -> VK -> Prop) : Prop :=
 ∀ (pins : List (Addr × Obj)) (s : Shared) (σ : St) (H : Hp) (x : V) (v : Value) (Q : VK), Inv X pins σ H s -> RelV x v -> r x H Q ->
  wpAny (model X.prog X.w) X.A (f v) (EP X pins σ Q) X.xe s
noncomputable def CallR (X : Cx) (f : Value) (r : List V -> Hp -> VK -> Prop) : Prop :=
 ∀ (pins : List (Addr × Obj)) (s : Shared) (σ : St) (H : Hp) (xs : List V) (us : List Value) (Q : VK), Inv X pins σ H s -> Vals xs us -> r xs H Q ->
  wpAny (model X.prog X.w) X.A (call f us) (EP X pins σ Q) X.xe s
noncomputable def TruR (X : Cx) (r : V -> Hp -> (Bool -> Hp -> Prop) -> Prop) : Prop :=
 ∀ (pins : List (Addr × Obj)) (s : Shared) (σ : St) (H : Hp) (x : V) (v : Value) (Q : Bool -> Hp -> Prop), Inv X pins σ H s -> RelV x v -> r x H Q ->
  wpAny (model X.prog X.w) X.A (truthy v) (TP X pins σ Q) X.xe s
noncomputable def tOp (r : R2) (ta tb : TE) : TE := fun σ H Q => ta σ H fun x H1 => tb σ H1 fun y H2 => r x y H2 Q
noncomputable def tUn (r : V -> Hp -> VK -> Prop) (ta : TE) : TE := fun σ H Q => ta σ H fun x H1 => r x H1 Q
noncomputable def rI (C : Int -> Int -> Prop) (g : Int -> Int -> V) : R2 := fun x y H Q => ∃ i j, x = .int i /\ y = .int j /\ C i j /\ Q (g i j) H
noncomputable def rI0 (g : Int -> Int -> V) : R2 := fun x y H Q => ∃ i j, x = .int i /\ y = .int j /\ Q (g i j) H
noncomputable def rU (g : Int -> V) : V -> Hp -> VK -> Prop := fun x H Q => ∃ i, x = .int i /\ Q (g i) H
section
variable {X : Cx} {a b c : Expr} {ta tb tc : TE} {pos : Pos}
theorem binT (ha : PE X a ta) (hb : PE X b tb) {pins : List (Addr × Obj)} {s : Shared} {σ : St} {H : Hp} {R : V -> V -> Hp -> Prop} (I : Inv X pins σ H s)
  (h : ta σ H fun x H1 => tb σ H1 fun y H2 => R x y H2) {Q : Value -> Shared -> Prop} {f : Value -> Value -> Sem Value}
  (hf : ∀ v u s2 x y H2, Inv X pins σ H2 s2 -> RelV x v -> RelV y u -> R x y H2 -> wpAny (model X.prog X.w) X.A (f v u) Q X.xe s2) :
  wpAny (model X.prog X.w) X.A (eval a X.env) (fun v s₁ => wpAny (model X.prog X.w) X.A (eval b X.env) (fun u s₂ => wpAny (model X.prog X.w) X.A (f v u) Q X.xe s₂) X.xe s₁) X.xe s := by
 refine thn (ha pins s σ H _ I h) fun v s1 ⟨x, H1, I1, r1, q1⟩ => ?_
 refine thn (hb pins s1 σ H1 _ I1 q1) fun u s2 ⟨y, H2, I2, r2, q2⟩ => ?_
 exact hf v u s2 x y H2 I2 r1 r2 q2
theorem pe_op {op : Operator} {r : R2} (ho : OpR X (binaryOp op) r) (ha : PE X a ta) (hb : PE X b tb) : PE X (.BinOp a op b pos) (tOp r ta tb) := by
 (first | refine ⟨?_⟩ | skip); intro pins s σ H Q I h
 exact wpAny_BinOp (binT ha hb I h fun v u s2 x y H2 I2 rx ry q => ho pins s2 σ H2 x y v u Q I2 rx ry q)
theorem pe_un {op : UnaryOp} {r : V -> Hp -> VK -> Prop} (ho : UnR X (unaryOp op) r) (ha : PE X a ta) : PE X (.UnaryOp op a pos) (tUn r ta) := by
 (first | refine ⟨?_⟩ | skip); intro pins s σ H Q I h
 exact UnaryOp_ (thn (ha pins s σ H _ I h) fun v s1 ⟨x, H1, I1, r1, q1⟩ => ho pins s1 σ H1 x v Q I1 r1 q1)
theorem opI {f : Value -> Value -> Sem Value} {C : Int -> Int -> Prop} {g : Int -> Int -> Int}
  (rule : ∀ (i j : Int) (t u : Tok) (s : Shared) (Q : Value -> Shared -> Prop) (E : Value -> Shared -> Prop), C i j -> Q (.int (g i j) s.toks) { s with toks := s.toks + 1 } -> wpAny (model X.prog X.w) X.A (f (.int i t) (.int j u)) Q E s) :
  OpR X f (rI C fun i j => .int (g i j)) := by
 (first | refine ⟨?_⟩ | skip); intro pins s σ H x y v u Q I rx ry h
 obtain ⟨i, j, rfl, rfl, hc, q⟩ := h
 obtain ⟨t, rfl⟩ := rx
 obtain ⟨t', rfl⟩ := ry
 exact rule i j t t' s _ _ hc ⟨.int (g i j), H, I.tok _, ⟨_, rfl⟩, q⟩
theorem opI0 {f : Value -> Value -> Sem Value} {g : Int -> Int -> Int}
  (rule : ∀ (i j : Int) (t u : Tok) (s : Shared) (Q : Value -> Shared -> Prop) (E : Value -> Shared -> Prop), Q (.int (g i j) s.toks) { s with toks := s.toks + 1 } -> wpAny (model X.prog X.w) X.A (f (.int i t) (.int j u)) Q E s) :
  OpR X f (rI0 fun i j => .int (g i j)) := by
 (first | refine ⟨?_⟩ | skip); intro pins s σ H x y v u Q I rx ry h
 obtain ⟨i, j, rfl, rfl, q⟩ := h
 obtain ⟨t, rfl⟩ := rx
 obtain ⟨t', rfl⟩ := ry
 exact rule i j t t' s _ _ ⟨.int (g i j), H, I.tok _, ⟨_, rfl⟩, q⟩
theorem opB0 {f : Value -> Value -> Sem Value} {g : Int -> Int -> Bool}
  (rule : ∀ (i j : Int) (t u : Tok) (s : Shared) (Q : Value -> Shared -> Prop) (E : Value -> Shared -> Prop), Q (.bool (g i j)) s -> wpAny (model X.prog X.w) X.A (f (.int i t) (.int j u)) Q E s) :
  OpR X f (rI0 fun i j => .bl (g i j)) := by
 (first | refine ⟨?_⟩ | skip); intro pins s σ H x y v u Q I rx ry h
 obtain ⟨i, j, rfl, rfl, q⟩ := h
 obtain ⟨t, rfl⟩ := rx
 obtain ⟨t', rfl⟩ := ry
 exact rule i j t t' s _ _ ⟨.bl (g i j), H, I, rfl, q⟩
noncomputable def CDiv (i j : Int) : Prop := 0 < j /\ j < 1073741824
noncomputable def CPow (i j : Int) : Prop := 0 <= j /\ j <= 1000000 /\ i.natAbs < 2 ^ 64
noncomputable def CMul (i j : Int) : Prop := (-(2 ^ 64) < i /\ i < 2 ^ 64) \/ (-(2 ^ 64) < j /\ j < 2 ^ 64)
theorem CMul.ok {i j : Int} (h : CMul i j) : IntMulOk i j := by
 rcases h with ⟨h1, h2⟩ | ⟨h1, h2⟩
 ·exact .of_left (intBits_le_64 h1 h2)
 ·exact .of_right (intBits_le_64 h1 h2)
theorem op_add : OpR X (binaryOp .Add) (rI0 fun i j => .int (i + j)) := opI0 fun _ _ _ _ _ _ _ q => add_int q
theorem op_sub : OpR X (binaryOp .Sub) (rI0 fun i j => .int (i - j)) := opI0 fun _ _ _ _ _ _ _ q => sub_int q
theorem op_mul : OpR X (binaryOp .Mult) (rI CMul fun i j => .int (i * j)) := opI fun _ _ _ _ _ _ _ hc q => mul_int q hc.ok
theorem op_fdiv : OpR X (binaryOp .FloorDiv) (rI CDiv fun i j => .int (i / j)) := opI fun i j _ _ _ _ _ hc q => by
 have h1 : (0 : Int) < j := hc.1
 have h2 : j < 1073741824 := hc.2
 exact floordiv_int (by omega) (by rw [Int.fdiv_eq_ediv_of_nonneg i (by omega)]; exact q) (.inl (PyProof.noPylong_small (by omega)))
theorem op_mod : OpR X (binaryOp .Mod) (rI (fun _ j => 0 < j) fun i j => .int (i % j)) := opI fun i j _ _ _ _ _ hc q => by
 have h1 : (0 : Int) < j := hc
 exact mod_int' (by omega) (by rw [Int.fmod_eq_emod_of_nonneg i (by omega)]; exact q)
theorem op_pow : OpR X (binaryOp .Pow) (rI CPow fun i j => .int (i ^ j.toNat)) := opI fun _ _ _ _ _ _ _ hc q => pow_int_small hc.1 hc.2.1 hc.2.2 q
theorem unI {f : Value -> Sem Value} {g : Int -> Int}
  (rule : ∀ (i : Int) (t : Tok) (s : Shared) (Q : Value -> Shared -> Prop) (E : Value -> Shared -> Prop), Q (.int (g i) s.toks) { s with toks := s.toks + 1 } -> wpAny (model X.prog X.w) X.A (f (.int i t)) Q E s) :
  UnR X f (rU fun i => .int (g i)) := by
 (first | refine ⟨?_⟩ | skip); intro pins s σ H x v Q I rx h
 obtain ⟨i, rfl, q⟩ := h
 obtain ⟨t, rfl⟩ := rx
 exact rule i t s _ _ ⟨.int (g i), H, I.tok _, ⟨_, rfl⟩, q⟩
theorem un_neg : UnR X (unaryOp .USub) (rU fun i => .int (-i)) := unI fun _ _ _ _ _ q => neg_int q
end
noncomputable def scal : V -> V -> Bool
 | .non, .non => true | .non, .int _ => true | .int _, .non => true | .non, .bl _ => true | .bl _, .non => true | .non, .str _ => true | .str _, .non => true
 | .int _, .int _ => true | .bl _, .bl _ => true | .str _, .str _ => true | .byt _, .byt _ => true
 | .int _, .str _ => true | .str _, .int _ => true | .bl _, .str _ => true | .str _, .bl _ => true
 | _, _ => false
noncomputable def rEq : R2 := fun x y H Q => scal x y = true /\ Q (.bl (decide (x = y))) H
noncomputable def rNe : R2 := fun x y H Q => scal x y = true /\ Q (.bl (!decide (x = y))) H
theorem dec_int {i j : Int} : decide (V.int i = V.int j) = (i == j) := by
 rw [Bool.eq_iff_iff]
 simp
theorem dec_bl {i j : Bool} : decide (V.bl i = V.bl j) = (i == j) := by
 rw [Bool.eq_iff_iff]
 simp
theorem dec_str {i j : Str} : decide (V.str i = V.str j) = (i == j) := by
 rw [Bool.eq_iff_iff]
 simp
theorem dec_byt {i j : Array UInt8} : decide (V.byt i = V.byt j) = (i.toList == j.toList) := by
 rw [Bool.eq_iff_iff]
 cases i
 cases j
 simp
section
variable {X : Cx} {a b c : Expr} {ta tb tc : TE} {pos : Pos}
theorem fin_bl {pins : List (Addr × Obj)} {σ : St} {H : Hp} {s : Shared} {Q : VK} {k k' : Bool} (I : Inv X pins σ H s) (q : Q (.bl k) H) (e : k = k') : EP X pins σ Q (.bool k') s := by
 subst e
 exact ⟨.bl k, H, I, rfl, q⟩
theorem op_eq : OpR X (compareOp .Eq) rEq := by
 (first | refine ⟨?_⟩ | skip); intro pins s σ H x y v u Q I rx ry h
 obtain ⟨hs, q⟩ := h
 cases x with
 | non =>
  cases rx
  cases y with
  | non => cases ry; exact PySem.EqNone.eq_none_none (fin_bl I q (by simp))
  | bl j => cases ry; exact PySem.EqNone.eq_none_bool (fin_bl I q (by simp))
  | int j => obtain ⟨t', rfl⟩ := ry; exact PySem.EqNone.eq_none_int (fin_bl I q (by simp))
  | str j => obtain ⟨t', rfl⟩ := ry; exact PySem.EqNone.eq_none_str (fin_bl I q (by simp))
  | _ => exact absurd (show false = true from hs) Bool.false_ne_true
 | bl i =>
  cases rx
  cases y with
  | non => cases ry; exact PySem.EqNone.eq_bool_none (fin_bl I q (by simp))
  | bl j => cases ry; exact eq_bool (fin_bl I q dec_bl)
  | str j => obtain ⟨t', rfl⟩ := ry; exact PySem.EqMixed.eq_bool_str (fin_bl I q (by simp))
  | _ => exact absurd (show false = true from hs) Bool.false_ne_true
 | int i =>
  obtain ⟨t, rfl⟩ := rx
  cases y with
  | non => cases ry; exact PySem.EqNone.eq_int_none (fin_bl I q (by simp))
  | int j => obtain ⟨t', rfl⟩ := ry; exact eq_int (fin_bl I q dec_int)
  | str j => obtain ⟨t', rfl⟩ := ry; exact PySem.EqMixed.eq_int_str (fin_bl I q (by simp))
  | _ => exact absurd (show false = true from hs) Bool.false_ne_true
 | str i =>
  obtain ⟨t, rfl⟩ := rx
  cases y with
  | non => cases ry; exact PySem.EqNone.eq_str_none (fin_bl I q (by simp))
  | bl j => cases ry; exact PySem.EqMixed.eq_str_bool (fin_bl I q (by simp))
  | int j => obtain ⟨t', rfl⟩ := ry; exact PySem.EqMixed.eq_str_int (fin_bl I q (by simp))
  | str j => obtain ⟨t', rfl⟩ := ry; exact eq_str (fin_bl I q dec_str)
  | _ => exact absurd (show false = true from hs) Bool.false_ne_true
 | byt i =>
  obtain ⟨t, rfl⟩ := rx
  cases y with
  | byt j => obtain ⟨t', rfl⟩ := ry; exact PySem.W.eq_bytes (fin_bl I q dec_byt)
  | _ => exact absurd (show false = true from hs) Bool.false_ne_true
 | _ => cases y <;> exact absurd (show false = true from hs) Bool.false_ne_true
theorem op_ne : OpR X (compareOp .NotEq) rNe := by
 (first | refine ⟨?_⟩ | skip); intro pins s σ H x y v u Q I rx ry h
 obtain ⟨hs, q⟩ := h
 cases x with
 | non =>
  cases rx
  cases y with
  | non => cases ry; exact PySem.EqNone.ne_none_none (fin_bl I q (by simp))
  | bl j => cases ry; exact PySem.EqNone.ne_none_bool (fin_bl I q (by simp))
  | int j => obtain ⟨t', rfl⟩ := ry; exact PySem.EqNone.ne_none_int (fin_bl I q (by simp))
  | str j => obtain ⟨t', rfl⟩ := ry; exact PySem.EqNone.ne_none_str (fin_bl I q (by simp))
  | _ => exact absurd (show false = true from hs) Bool.false_ne_true
 | bl i =>
  cases rx
  cases y with
  | non => cases ry; exact PySem.EqNone.ne_bool_none (fin_bl I q (by simp))
  | bl j => cases ry; exact ne_bool (fin_bl I q (congrArg not dec_bl))
  | str j => obtain ⟨t', rfl⟩ := ry; exact PySem.EqMixed.ne_bool_str (fin_bl I q (by simp))
  | _ => exact absurd (show false = true from hs) Bool.false_ne_true
 | int i =>
  obtain ⟨t, rfl⟩ := rx
  cases y with
  | non => cases ry; exact PySem.EqNone.ne_int_none (fin_bl I q (by simp))
  | int j => obtain ⟨t', rfl⟩ := ry; exact ne_int (fin_bl I q (congrArg not dec_int))
  | str j => obtain ⟨t', rfl⟩ := ry; exact PySem.EqMixed.ne_int_str (fin_bl I q (by simp))
  | _ => exact absurd (show false = true from hs) Bool.false_ne_true
 | str i =>
  obtain ⟨t, rfl⟩ := rx
  cases y with
  | non => cases ry; exact PySem.EqNone.ne_str_none (fin_bl I q (by simp))
  | bl j => cases ry; exact PySem.EqMixed.ne_str_bool (fin_bl I q (by simp))
  | int j => obtain ⟨t', rfl⟩ := ry; exact PySem.EqMixed.ne_str_int (fin_bl I q (by simp))
  | str j => obtain ⟨t', rfl⟩ := ry; exact ne_str (fin_bl I q (congrArg not dec_str))
  | _ => exact absurd (show false = true from hs) Bool.false_ne_true
 | byt i =>
  obtain ⟨t, rfl⟩ := rx
  cases y with
  | byt j => obtain ⟨t', rfl⟩ := ry; exact PySem.W.ne_bytes (fin_bl I q (congrArg not dec_byt))
  | _ => exact absurd (show false = true from hs) Bool.false_ne_true
 | _ => cases y <;> exact absurd (show false = true from hs) Bool.false_ne_true
theorem op_le : OpR X (compareOp .LtE) (rI0 fun i j => .bl (decide (i <= j))) := opB0 fun _ _ _ _ _ _ _ q => le_int q
theorem op_gt : OpR X (compareOp .Gt) (rI0 fun i j => .bl (decide (j < i))) := opB0 fun _ _ _ _ _ _ _ q => gt_int q
theorem op_ge : OpR X (compareOp .GtE) (rI0 fun i j => .bl (decide (j <= i))) := opB0 fun _ _ _ _ _ _ _ q => ge_int q
theorem op_in_str : OpR X (compareOp .In) (fun x y H Q => ∃ i j, x = .str i /\ y = .str j /\ Q (.bl (!(Builtin.Str.occurrences j i 0 j.length 1).isEmpty)) H) := by
 (first | refine ⟨?_⟩ | skip); intro pins s σ H x y v u Q I rx ry h
 obtain ⟨i, j, rfl, rfl, q⟩ := h
 obtain ⟨t, rfl⟩ := rx
 obtain ⟨t', rfl⟩ := ry
 exact in_str (fin_bl I q rfl)
theorem op_isN : OpR X (compareOp .Is) (fun x y H Q => y = .non /\ Q (.bl (decide (x = .non))) H) := by
 (first | refine ⟨?_⟩ | skip); intro pins s σ H x y v u Q I rx ry h
 obtain ⟨rfl, q⟩ := h
 cases ry
 refine is_none_gen (fin_bl I q ?_)
 cases x <;> first
  | (cases rx; rfl)
  | (obtain ⟨t, rfl⟩ := rx; rfl)
theorem op_notN : OpR X (compareOp .IsNot) (fun x y H Q => y = .non /\ Q (.bl (!decide (x = .non))) H) := by
 (first | refine ⟨?_⟩ | skip); intro pins s σ H x y v u Q I rx ry h
 obtain ⟨rfl, q⟩ := h
 cases ry
 refine isnot_none_gen (fin_bl I q ?_)
 cases x <;> first
  | (cases rx; rfl)
  | (obtain ⟨t, rfl⟩ := rx; rfl)
theorem op_notin_str : OpR X (compareOp .NotIn) (fun x y H Q => ∃ i j, x = .str i /\ y = .str j /\ Q (.bl (!(!(Builtin.Str.occurrences j i 0 j.length 1).isEmpty))) H) := by
 (first | refine ⟨?_⟩ | skip); intro pins s σ H x y v u Q I rx ry h
 obtain ⟨i, j, rfl, rfl, q⟩ := h
 obtain ⟨t, rfl⟩ := rx
 obtain ⟨t', rfl⟩ := ry
 exact notIn_str (fin_bl I q rfl)
theorem nomark (b : Expr) {op : CmpOp} (h : op ≠ .In := by decide) (h2 : op ≠ .NotIn := by decide) : behindInMarks op b = false := by
 have e1 : (op == CmpOp.In) = false := by cases op <;> first | rfl | exact absurd rfl h
 have e2 : (op == CmpOp.NotIn) = false := by cases op <;> first | rfl | exact absurd rfl h2
 cases b <;> simp [behindInMarks, e1, e2]
theorem pe_cmpR {op : CmpOp} {r : R2} (ho : OpR X (compareOp op) r) (ha : PE X a ta) (hb : PE X b tb) (hm : behindInMarks op b = false) : PE X (.Compare a [op] [b] pos) (tOp r ta tb) := by
 (first | refine ⟨?_⟩ | skip); intro pins s σ H Q I h
 exact wpAny_Compare1 (binT ha hb I h fun v u s2 x y H2 I2 rx ry q => ho pins s2 σ H2 x y v u Q I2 rx ry q) hm
noncomputable def tTest (t : TE) : TT := fun σ H Q => t σ H fun x H' => ∃ k, x = .bl k /\ Q k H'
theorem pt_cmpR {op : CmpOp} {r : R2} (ho : OpR X (compareOp op) r) (ha : PE X a ta) (hb : PE X b tb) (hm : behindInMarks op b = false) : PT X (.Compare a [op] [b] pos) (tTest (tOp r ta tb)) := by
 (first | refine ⟨?_⟩ | skip); intro pins s σ H Q I h
 refine wpAny_isTrue_Compare1 (thn (ha pins s σ H _ I h) fun v s1 ⟨x, H1, I1, r1, q1⟩ => thn (hb pins s1 σ H1 _ I1 q1) fun u s2 ⟨y, H2, I2, r2, q2⟩ =>
  thn (ho pins s2 σ H2 x y v u _ I2 r1 r2 q2) fun c s3 ⟨z, H3, I3, r3, k, e, q3⟩ => ?_) hm
 subst e
 cases r3
 exact wpAny_truthy_bool ⟨H3, I3, q3⟩
noncomputable def TruV (K : PySem.W.Frag) (x : V) (H : Hp) (k : Bool) : Prop :=
 match x with
 | .non => k = false
 | .bl b => k = b
 | .int i => k = (i != 0)
 | .str y => y.length <= sizeLine /\ k = ((y.length : Int) != 0)
 | .byt y => y.size <= sizeLine /\ k = ((y.size : Int) != 0)
 | .ref p => (∃ xs, SqL K H p xs /\ k = !xs.isEmpty) \/ (∃ xs, SqT K H p xs /\ k = !xs.isEmpty) \/ ∃ kvs, H p = some (.dK kvs) /\ k = !kvs.isEmpty
 | _ => False
theorem isEmpty_kv {κ : Type} {kvs : List (κ × V)} {vs : List (κ × Value)} (r : KV kvs vs) : (!vs.isEmpty) = !kvs.isEmpty := by
 cases r <;> rfl
theorem isEmpty_of {xs : List V} {its : List Value} (r : Vals xs its) : (!its.toArray.isEmpty) = !xs.isEmpty := by
 cases r <;> simp
theorem line63 : (sizeLine : Nat) < 2 ^ 63 := by rw [sizeLine_eq]; decide
theorem tru_ok : TruR X (fun x H Q => ∃ k, TruV X.K x H k /\ Q k H) := by
 (first | refine ⟨?_⟩ | skip); intro pins s σ H x v Q I rx h
 obtain ⟨k, e, q⟩ := h
 have hl := line63
 have hs : sizeLine = 16777216 := sizeLine_eq
 cases x with
 | non =>
  cases rx
  have e' : k = false := e
  subst e'
  exact truthy_none ⟨H, I, q⟩
 | bl b =>
  cases rx
  have e' : k = b := e
  subst e'
  exact wpAny_truthy_bool ⟨H, I, q⟩
 | int i =>
  obtain ⟨t, rfl⟩ := rx
  have e' : k = (i != 0) := e
  subst e'
  exact PySem.P.truthy_int ⟨H, I, q⟩
 | str y =>
  obtain ⟨t, rfl⟩ := rx
  obtain ⟨hy, e'⟩ : y.length <= sizeLine /\ k = ((y.length : Int) != 0) := e
  subst e'
  exact PySem.P.truthy_str (by omega) ⟨H, I.tok _, q⟩
 | byt y =>
  obtain ⟨t, rfl⟩ := rx
  obtain ⟨hy, e'⟩ : y.size <= sizeLine /\ k = ((y.size : Int) != 0) := e
  subst e'
  exact PySem.W.truthy_bytes (by omega) ⟨H, I.tok _, q⟩
 | ref p =>
  cases rx
  have e' : (∃ xs, SqL X.K H p xs /\ k = !xs.isEmpty) \/ (∃ xs, SqT X.K H p xs /\ k = !xs.isEmpty) \/ ∃ kvs, H p = some (.dK kvs) /\ k = !kvs.isEmpty := e
  rcases e' with ⟨xs, hx, e'⟩ | ⟨xs, hx, e'⟩ | ⟨kvs, hx, e'⟩
  ·subst e'
   obtain ⟨its, r, pl, hz⟩ := I.list hx
   have hlen := r.length
   exact wpAny_truthy_list pl.isList (by simp only [List.size_toArray]; omega) ⟨H, I.tok _, by rw [isEmpty_of r]; exact q⟩
  ·subst e'
   obtain ⟨its, r, pl, hz⟩ := I.tuple hx
   have hlen := r.length
   exact truthy_tuple pl (by simp only [List.size_toArray]; omega) ⟨H, I.tok _, by rw [isEmpty_of r]; exact q⟩
  ·subst e'
   obtain ⟨hz, hS, vs, r, m⟩ : kvs.length <= sizeLine /\ (p == sysModules) = false /\ ∃ vs, KV kvs vs /\ s.heap.DictOf (mixKind X.prog X.w) p vs := I.hok p _ hx
   have hlen : kvs.length = vs.length := Paired.length r
   exact wpAny_truthy_dict hS m (by omega) ⟨H, I.tok _, by rw [isEmpty_kv r]; exact q⟩
 | _ => exact (show False from e).elim
theorem pt_truth (ha : PE X a ta) (he : ∀ whole, isTrue a X.env whole = (do let v ← whole; standAt a.pos; holding [v] (truthy v))) :
  PT X a (fun σ H Q => ta σ H fun x H' => ∃ k, TruV X.K x H' k /\ Q k H') := by
 (first | refine ⟨?_⟩ | skip); intro pins s σ H Q I h
 exact isTrue_plain (thn (ha pins s σ H _ I h) fun v s1 ⟨x, H1, I1, r1, q1⟩ => tru_ok pins s1 σ H1 x v Q I1 r1 q1) (he _)
theorem op_add_str : OpR X (binaryOp .Add) (fun x y H Q => ∃ i j, x = .str i /\ y = .str j /\ i.length + j.length <= sizeLine /\ Q (.str (i ++ j)) H) := by
 (first | refine ⟨?_⟩ | skip); intro pins s σ H x y v u Q I rx ry h
 obtain ⟨i, j, rfl, rfl, hz, q⟩ := h
 obtain ⟨t, rfl⟩ := rx
 obtain ⟨t', rfl⟩ := ry
 exact add_str (fun t' tk => ⟨.str (i ++ j), H, I.tok _, ⟨_, rfl⟩, q⟩) hz
theorem vals1 {x : V} {us : List Value} (r : Vals [x] us) : ∃ u, us = [u] /\ RelV x u := by
 cases r with
 | cons r1 r2 => cases r2; exact ⟨_, rfl, r1⟩
theorem vals2 {x y : V} {us : List Value} (r : Vals [x, y] us) : ∃ u w', us = [u, w'] /\ RelV x u /\ RelV y w' := by
 cases r with
 | cons r1 r2 =>
  cases r2 with
  | cons r3 r4 => cases r4; exact ⟨_, _, rfl, r1, r3⟩
theorem call_min2 (hc : X.calm = true) : CallR X (.builtin "min") (fun xs H Q => ∃ i j, xs = [.int i, .int j] /\ Q (.int (if j < i then j else i)) H) := by
 (first | refine ⟨?_⟩ | skip); intro pins s σ H xs us Q I r h
 obtain ⟨i, j, rfl, q⟩ := h
 obtain ⟨u, w', rfl, ⟨t, rfl⟩, ⟨t', rfl⟩⟩ := vals2 r
 refine min_two_ints (I.ok.hd hc) fun h' tk k => ⟨_, H, I.kept k, ?_, q⟩
 by_cases hj : j < i
 ·rw [if_pos hj, if_pos hj]; exact ⟨_, rfl⟩
 ·rw [if_neg hj, if_neg hj]; exact ⟨_, rfl⟩
end
end L2
namespace L2
open PySem PySem.Spec PyProof.Rows
structure Room (k : Nat) (A : Around) : Prop where
 hd : A.handled = none
 dp : A.depth + 3 * k + 5 < recursionLimit
 un : A.units + 16 * k + 200 < cLine
 gd : A.guards = some []
theorem Room.mono {j k : Nat} {A : Around} (r : Room k A) (h : j <= k) : Room j A := ⟨r.hd, by have := r.dp; omega, by have := r.un; omega, r.gd⟩
theorem Room.deeper {k : Nat} {A : Around} (r : Room (k + 1) A) (env : Env) : Room k (A.deeper env) :=
 ⟨r.hd, by have := r.dp; show A.depth + 1 + 3 * k + 5 < _; omega, by have := r.un; show A.units + 3 + 16 * k + 200 < _; omega, r.gd⟩
theorem Room.depth {k : Nat} {A : Around} (r : Room k A) : A.depth < recursionLimit := by have := r.dp; omega
noncomputable def tNil : TA := fun _ H Q => Q [] H
noncomputable def tCons (ta : TE) (tr : TA) : TA := fun σ H Q => ta σ H fun x H1 => tr σ H1 fun xs H2 => Q (x :: xs) H2
section
variable {X : Cx} {e : Expr} {es : List Expr} {te : TE} {t : TA} {pos : Pos}
theorem pa_nil : PA X [] tNil := .mk <| fun _ _ _ _ H Q I h => Calls.spliced_nil ⟨[], H, I, .nil, h⟩
theorem pa_cons (ha : PE X e te) (hr : PA X es t) (hs : starEach (e :: es) X.env = (false, eval e X.env) :: starEach es X.env := by rfl) : PA X (e :: es) (tCons te t) := by
 (first | refine ⟨?_⟩ | skip); intro pos pins s σ H Q I h
 rw [hs]
 show wpAny _ _ (spliced ((false, eval e X.env) :: backTo pos (starEach es X.env))) _ _ s
 refine Calls.spliced_cons (thn (ha pins s σ H _ I h) fun u s1 ⟨x, H1, I1, r1, q1⟩ => ?_)
 exact thn (hr pos pins s1 σ H1 _ I1 q1) fun us s2 ⟨xs, H2, I2, r2, q2⟩ => ⟨x :: xs, H2, I2, .cons r1 r2, q2⟩
end
noncomputable abbrev Sp := List V -> Hp -> VK -> XK -> Prop
noncomputable abbrev CXT := List Env -> Hp -> Shared -> XK -> Value -> Shared -> Prop
structure Env0 (P : Program) (w : World) (K : PySem.W.Frag) (mg : Str -> Option Value) (base : Heap) (A : Around) (outer : List Env) (s : Shared) (H : Hp) : Prop where
 frames : A.frames = some outer
 mod : Mod K mg base
 bs : ∀ b o, base.get? b = some o -> s.heap.get? b = some o /\ H b = none
 bsz : base.objs.size <= s.heap.objs.size
 funs : s.heap.FunFrames base outer
 frf : ∀ b ∈ frs outer, H b = none
 hok : HOk P w H s.heap
 bare : AllBare s.gens
noncomputable def CE (outer : List Env) (P : Program) (w : World) (H : Hp) (s : Shared) (Q : VK) (u : Value) (s' : Shared) : Prop :=
 ∃ v H', s'.os = s.os /\ AllBare s'.gens /\ Un (frs outer) [] H H' s.heap s'.heap /\ HOk P w H' s'.heap /\ RelV v u /\ Q v H'
noncomputable def CR (CX : CXT) (outer : List Env) (P : Program) (w : World) (H : Hp) (s : Shared) (Q : VK) (E : XK) (r : Result) (s' : Shared) : Prop :=
 match r with
 | .ok (.ret u) => CE outer P w H s Q u s'
 | .ok _ => False
 | .error e => CX outer H s E e s'
structure FnOk (P : Program) (w : World) (K : PySem.W.Frag) (mg : Str -> Option Value) (base : Heap) (CX : CXT) (k : Nat) (f : Addr) (fd : FuncData) (ps : List Str) (sp : Sp) : Prop where
 len : ∀ vs H Q E, sp vs H Q E -> vs.length = ps.length
 run : ∀ (A : Around) (outer : List Env) (s : Shared) (H : Hp) (args : Args) (us : List Value) (vs : List V) (Q : VK) (E : XK), Room k A -> Env0 P w K mg base A outer s H -> BindsTo s fd args (ps.zip us) -> Vals vs us -> sp vs H Q E ->
  codeAny (model P w) A (.call (.ref f) args) (CR CX outer P w H s Q E) s
theorem FnOk.imp {P : Program} {w : World} {K : PySem.W.Frag} {mg : Str -> Option Value} {base : Heap} {CX : CXT} {k : Nat} {f : Addr} {fd : FuncData} {ps : List Str} {sp sp' : Sp} (F : FnOk P w K mg base CX k f fd ps sp)
  (h : ∀ vs H Q E, sp' vs H Q E -> sp vs H Q E) : FnOk P w K mg base CX k f fd ps sp' :=
 ⟨fun vs H Q E q => F.len vs H Q E (h _ _ _ _ q), fun A outer s H args us vs Q E hr he hb hv hs => F.run A outer s H args us vs Q E hr he hb hv (h _ _ _ _ hs)⟩
section
variable {X : Cx} {pins : List (Addr × Obj)} {σ : St} {H : Hp} {s s' : Shared}
theorem Inv.env0 (I : Inv X pins σ H s) : Env0 X.prog X.w X.K X.mg X.base X.A X.stack s H :=
 ⟨I.ok.frames, I.ok.mod, I.bs, Nat.le_trans I.ok.bsz I.sz, I.stack, I.stkFree, I.hok, I.bare⟩
theorem Inv.after {Q : VK} {u : Value} (I : Inv X pins σ H s) (h : CE X.stack X.prog X.w H s Q u s') : EP X pins σ Q u s' := by
 obtain ⟨v, H', os, bare, un, hok, r, q⟩ := h
 obtain ⟨hh, g, d, t, os'⟩ := s'
 obtain rfl : os' = s.os := os
 exact ⟨v, H', I.call (h' := hh) (g' := g) (d' := d) (t' := t) (ch := []) un hok bare (fun b z => absurd z (by simp)), r, q⟩
end
noncomputable def tCall (sp : Sp) (dvs : List V) (E : XK) (t : TA) : TE := fun σ H Q => t σ H fun vs H1 => sp (vs ++ dvs) H1 Q E
noncomputable def Binds (K : PySem.W.Frag) (fd : FuncData) (ps : List Str) (ds : List Value) : Prop :=
 ∀ (s : Shared) (us : List Value), K.In s.heap -> (us ++ ds).length = ps.length -> BindsTo s fd ⟨us, []⟩ (ps.zip (us ++ ds))
theorem Binds.all {K : PySem.W.Frag} {fd : FuncData} {ps : List Str} (h : ∀ us : List Value, us.length = ps.length -> bindArgs fd ⟨us, []⟩ = pure (ps.zip us)) : Binds K fd ps [] := fun s us _ hl => by
 rw [List.append_nil] at hl ⊢
 exact .of_eq (h us hl)
noncomputable def Passes (CX : CXT) (X : Cx) (E : XK) : Prop := ∀ (pins : List (Addr × Obj)) (σ : St) (H : Hp) (s : Shared) (e : Value) (s' : Shared), Inv X pins σ H s -> CX X.stack H s E e s' -> X.xe e s'
section
variable {X : Cx} {CX : CXT} {k : Nat} {f C : Addr} {fd : FuncData} {ps : List Str} {sp : Sp} {dvs : List V} {ds : List Value} {E : XK} {x m : Str} {p pos apos : Pos} {e o : Expr} {es : List Expr} {ta : TE} {t : TA}
theorem run_fn {pins : List (Addr × Obj)} {σ : St} {H : Hp} {s : Shared} {Q : VK} {us : List Value} {vs : List V} (F : FnOk X.prog X.w X.K X.mg X.base CX k f fd ps sp) (hr : Room k X.A) (hb : Binds X.K fd ps ds) (hd : Vals dvs ds) (hx : Passes CX X E)
  (I : Inv X pins σ H s) (r : Vals vs us) (h : sp (vs ++ dvs) H Q E) : wpAny (model X.prog X.w) X.A (call (.ref f) us) (EP X pins σ Q) X.xe s := by
 have r2 : Vals (vs ++ dvs) (us ++ ds) := r.append hd
 have hl : (us ++ ds).length = ps.length := by rw [← r2.length]; exact F.len _ _ _ _ h
 refine wpAny_call (codeAny_mono (F.run X.A X.stack s H ⟨us, []⟩ (us ++ ds) (vs ++ dvs) Q E hr I.env0 (hb s us I.kIn hl) r2 h) fun r s' hq => ?_)
 cases r with
 | error e => exact hx pins σ H s e s' I hq
 | ok fl =>
  cases fl with
  | ret u => exact I.after hq
  | next => exact False.elim hq
  | brk => exact False.elim hq
  | cont => exact False.elim hq
theorem pe_call (F : FnOk X.prog X.w X.K X.mg X.base CX k f fd ps sp) (hr : Room k X.A) (hg : Gl X x) (hm : X.mg x = some (.ref f)) (hk : PySem.W.keepIn X.K (.ref f) = true) (hb : Binds X.K fd ps ds) (hd : Vals dvs ds) (hx : Passes CX X E)
  (ha : PA X (e :: es) t) (hdb : (x == ("__debug__" : Str)) = false := by decide) (he : starEach (e :: es) X.env = (false, eval e X.env) :: starEach es X.env := by rfl) (hpl : (backTo pos (starEach es X.env)).any (·.1) = false := by rfl) :
  PE X (.Call (.Name x p) (e :: es) [] pos) (tCall sp dvs E t) := by
 (first | refine ⟨?_⟩ | skip); intro pins s σ H Q I h
 refine wpAny_Call_Name_kw (ld_glob I hg hm ?_ hdb)
 refine PySem.W.callWith_K (h₀ := X.base) I.ok.mod.kin hk (thn (ha pos pins s σ H _ I h) fun us s1 ⟨vs, H1, I1, r, q⟩ => ⟨I1.kIn, ?_⟩) he hpl
 exact run_fn F hr hb hd hx I1 r q
end
structure FnScope (N P : List Str) (sc : Scope) : Prop where
 kind : sc.kind = .function
 co : sc.isCoroutine = false
 gen : sc.isGenerator = false
 nd : N.Nodup
 pre : N.take P.length = P
 par : ∀ x ∈ P, sc.names.lookup x = some .local \/ sc.names.lookup x = some .cell
 nofree : ∀ y ∈ sc.names, y.2 ≠ .free
theorem bindL_out {kindOf : Str -> Option NameKind} {x : Str} : ∀ {binds : List (Str × Value)} {m : Str -> Option Value}, (∀ v, (x, v) ∉ binds) -> bindL kindOf binds m x = m x
 | [], _, _ => rfl
 | (n, v) :: r, m, h => by
  unfold bindL
  rw [bindL_out fun w hw => h w (List.mem_cons_of_mem _ hw)]
  split
  ·have : x ≠ n := by rintro rfl; exact h v List.mem_cons_self
   simp [this]
  ·rfl
theorem bindC_out {kindOf : Str -> Option NameKind} {x : Str} : ∀ {binds : List (Str × Value)} {m : Str -> Option Value}, (∀ v, (x, v) ∉ binds) -> bindC kindOf binds m x = m x
 | [], _, _ => rfl
 | (n, v) :: r, m, h => by
  unfold bindC
  rw [bindC_out fun w hw => h w (List.mem_cons_of_mem _ hw)]
  split
  ·rfl
  ·have : x ≠ n := by rintro rfl; exact h v List.mem_cons_self
   simp [this]
theorem bindL_get {kindOf : Str -> Option NameKind} {x : Str} {v : Value} : ∀ {P : List Str} {vs : List Value} {i : Nat} {m : Str -> Option Value}, P.Nodup -> P[i]? = some x -> vs[i]? = some v -> kindOf x = some .local ->
  bindL kindOf (P.zip vs) m x = some v
 | [], _, _, _, _, h, _, _ => by simp at h
 | _ :: _, [], _, _, _, _, h, _ => by simp at h
 | p :: P, w :: vs, 0, m, nd, h1, h2, hk => by
  simp at h1 h2; subst h1; subst h2
  show bindL kindOf ((p, w) :: P.zip vs) m p = _
  unfold bindL
  rw [bindL_out fun v hv => (List.nodup_cons.mp nd).1 (List.of_mem_zip hv).1, if_pos hk]
  simp
 | p :: P, w :: vs, i + 1, m, nd, h1, h2, hk => by
  show bindL kindOf ((p, w) :: P.zip vs) m x = _
  unfold bindL
  exact bindL_get (i := i) (List.nodup_cons.mp nd).2 (by simpa using h1) (by simpa using h2) hk
theorem bindC_get {kindOf : Str -> Option NameKind} {x : Str} {v : Value} : ∀ {P : List Str} {vs : List Value} {i : Nat} {m : Str -> Option Value}, P.Nodup -> P[i]? = some x -> vs[i]? = some v -> kindOf x ≠ some .local ->
  bindC kindOf (P.zip vs) m x = some v
 | [], _, _, _, _, h, _, _ => by simp at h
 | _ :: _, [], _, _, _, _, h, _ => by simp at h
 | p :: P, w :: vs, 0, m, nd, h1, h2, hk => by
  simp at h1 h2; subst h1; subst h2
  show bindC kindOf ((p, w) :: P.zip vs) m p = _
  unfold bindC
  rw [bindC_out fun v hv => (List.nodup_cons.mp nd).1 (List.of_mem_zip hv).1, if_neg hk]
  simp
 | p :: P, w :: vs, i + 1, m, nd, h1, h2, hk => by
  show bindC kindOf ((p, w) :: P.zip vs) m x = _
  unfold bindC
  exact bindC_get (i := i) (List.nodup_cons.mp nd).2 (by simpa using h1) (by simpa using h2) hk
noncomputable def start (N : List Str) (vs : List V) : St := vs.map some ++ List.replicate (N.length - vs.length) none
noncomputable def cxOf (CX : CXT) (P : Program) (w : World) (K : PySem.W.Frag) (mg : Str -> Option Value) (base : Heap) (N : List Str) (qual : Str) (scope : Scope) (f : Addr) (cd : Value) (A : Around) (outer : List Env) (s : Shared) (H : Hp) (E : XK) : Cx where
 prog := P
 w := w
 K := K
 mg := mg
 base := base
 A := A.deeper (envOfC qual scope s.heap.objs.size f cd)
 N := N
 s₀ := s
 H₀ := H
 env := envOfC qual scope s.heap.objs.size f cd
 outer := outer
 stack := envOfC qual scope s.heap.objs.size f cd :: outer
 ex := []
 calm := true
 fn := fun _ => true
 pn := []
 xe := fun e s' => wpAny (model P w) (A.deeper (envOfC qual scope s.heap.objs.size f cd)) (leaving (envOfC qual scope s.heap.objs.size f cd) e) (fun _ s'' => CX outer H s E e s'') (fun e' s'' => CX outer H s E e' s'') s'
theorem cell_has {sc : Scope} {n : Nat} {x : Str} (h : sc.names.lookup x = some .cell) : ∃ c, (cellsFrom n sc.names []).lookup x = some c := by
 have q := PySem.W.cellsFrom_some sc.names n [] (.inl h)
 exact Option.isSome_iff_exists.mp q
theorem inv_start {CX : CXT} {P : Program} {w : World} {K : PySem.W.Frag} {mg : Str -> Option Value} {base : Heap} {N ps : List Str} {qual : Str} {scope : Scope} {f : Addr} {cd : Value} {A : Around} {outer : List Env} {s s1 : Shared} {H : Hp} {E : XK} {us : List Value} {vs : List V}
  (S : FnScope N ps scope) (hd : A.handled = none) (e0 : Env0 P w K mg base A outer s H) (hl : vs.length = ps.length) (r : Vals vs us)
  (x : InCallC s s.heap.objs.size (bindL (envOfC qual scope s.heap.objs.size f cd).kindOf (ps.zip us) fun _ => none) (cellsFrom (s.heap.objs.size + 1) scope.names []) (bindC (envOfC qual scope s.heap.objs.size f cd).kindOf (ps.zip us) fun _ => none) s1) :
  Inv (cxOf CX P w K mg base N qual scope f cd A outer s H E) [] (start N vs) H s1 := by
 have hpl : ps.length <= N.length := by have := congrArg List.length S.pre; rw [List.length_take] at this; omega
 obtain ⟨h1, tk, rfl, hk⟩ := x.done
 have noA : ∀ b : Addr, b ∉ (cxOf CX P w K mg base N qual scope f cd A outer s H E).ex := fun b z => absurd (show b ∈ ([] : List Addr) from z) (by simp)
 refine ⟨⟨e0.mod, S.kind, rfl, rfl, Nat.le_refl _, fun y z c h1 h2 => ?_, fun y hy => ?_, fun y c _ h => ?_, fun _ => hd, Around.frames_deeper e0.frames, .inr ⟨rfl, rfl⟩, fun b z => absurd z (noA b), e0.bs, e0.bsz, fun b _ _ => noA b, fun b z => absurd z (noA b), e0.funs, e0.frf⟩,
  rfl, e0.bare, Un.kept hk, ⟨_, x.toInCall.ns, fun i y v h1 h2 h3 => ?_⟩, fun y c h => ⟨_, x.cell y c h⟩, e0.hok.fresh (Nat.le_refl _), fun y c h => ?_, fun p hp => absurd (show p ∈ ([] : List (Addr × Obj)) from hp) (by simp), e0.hok.kept hk, ?_⟩
 ·exact name_of_addr x.apart (PySem.mem_of_lookup h1) (PySem.mem_of_lookup h2)
 ·have hy : scope.names.lookup y = some .cell \/ scope.names.lookup y = some .free := hy
  rcases hy with hy | hy
  ·exact cell_has hy
  ·exact absurd rfl (S.nofree _ (PySem.mem_of_lookup hy))
 ·exact Nat.le_of_lt (x.above y c (PySem.mem_of_lookup h))
 ·have hi : i < vs.length := by
   unfold start at h2
   by_cases hi : i < vs.length
   ·exact hi
   ·rw [List.getElem?_append_right (by simpa using hi)] at h2
    rw [List.getElem?_replicate] at h2
    split at h2 <;> cases h2
  have ha : vs[i]? = some v := by
   unfold start at h2
   rw [List.getElem?_append_left (by simpa using hi), List.getElem?_map] at h2
   cases e : vs[i]? with
   | none => rw [e] at h2; cases h2
   | some a => rw [e] at h2; cases h2; rfl
  obtain ⟨u, hu, rv⟩ := r.get ha
  have hp : ps[i]? = some y := by
   rw [← S.pre, List.getElem?_take_of_lt (by omega)]; exact h1
  have ndP : ps.Nodup := by rw [← S.pre]; exact S.nd.sublist (List.take_sublist _ _)
  refine ⟨u, rv, ?_⟩
  rcases S.par y (List.mem_of_getElem? hp) with k | k
  ·exact .inl ⟨k, bindL_get ndP hp hu k⟩
  ·obtain ⟨c, e⟩ := cell_has (n := s.heap.objs.size + 1) k
   refine .inr ⟨.inl k, c, e, ?_⟩
   have q := x.cell y c e
   rw [bindC_get ndP hp hu (by show scope.names.lookup y ≠ _; rw [k]; decide)] at q
   exact q
 ·exact e0.hok.fresh (Nat.le_of_lt (x.above y c (PySem.mem_of_lookup h)))
 ·unfold start
  show _ = N.length
  rw [List.length_append, List.length_map, List.length_replicate]
  omega
theorem fn_of {CX : CXT} {P : Program} {w : World} {K : PySem.W.Frag} {mg : Str -> Option Value} {base : Heap} {k : Nat} {f : Addr} {name qual : Str} {params : Arguments} {body : List Stmt} {scope : Scope} {dV kV doc pm cdv ct oc : Value} {an od : Option Addr}
  {osl : Array (Option Value)} {N ps : List Str} {sp : Sp} (lk : K.lookup f = some ⟨oc, od, .func (PySem.W.fnOf name qual params body scope dV kV doc pm an cdv ct), osl⟩) (hcd : PySem.W.codeIn K cdv qual = true) (S : FnScope N ps scope)
  (len : ∀ vs H Q E, sp vs H Q E -> vs.length = ps.length)
  (hbody : ∀ (A : Around) (outer : List Env) (s : Shared) (H : Hp) (vs : List V) (Q : VK) (E : XK), Room k (A.deeper (envOfC qual scope s.heap.objs.size f cdv)) -> sp vs H Q E ->
   ∃ t, PSs (cxOf CX P w K mg base N qual scope f cdv A outer s H E) body t /\ t { nx := fun _ H' => Q .non H', rt := Q } (start N vs) H) :
  FnOk P w K mg base CX (k + 1) f (PySem.W.fnOf name qual params body scope dV kV doc pm an cdv ct) ps sp := by
 refine ⟨len, fun A outer s H args us vs Q E hr e0 hb r hsp => ?_⟩
 have hl := len _ _ _ _ hsp
 have KX : K.In s.heap := e0.mod.kin.keeps fun b o e => (e0.bs b o e).1
 have lim : s.heap.NoLimit := e0.mod.nolimit.keeps fun b o e => (e0.bs b o e).1
 have hkind : ∀ y ∈ ps.zip us, scope.names.lookup y.1 = some .local \/ (scope.names.lookup y.1 = some .cell /\ ((cellsFrom (s.heap.objs.size + 1) scope.names []).lookup y.1).isSome = true) := fun ⟨n, v⟩ hy => by
  rcases S.par n (List.of_mem_zip hy).1 with q | q
  ·exact .inl q
  ·exact .inr ⟨q, PySem.W.cellsFrom_some _ _ _ (.inl q)⟩
 refine codeAny_call_function hr.depth (KX _ _ lk) rfl S.co S.gen rfl (PySem.W.codeRec_of KX hcd) (hb _ _ _ _ ?_)
 refine wpAny_newFunctionEnv_cells S.kind hkind fun env he s1 x => ?_
 subst he
 refine ⟨lim.keeps x.toInCall.keep, codeAny_func ?_⟩
 obtain ⟨t, ht, hq⟩ := hbody A outer s H vs Q E (hr.deeper _) hsp
 have I : Inv (cxOf CX P w K mg base N qual scope f cdv A outer s H E) [] (start N vs) H s1 := inv_start S hr.hd e0 hl r x
 refine wpAny_mono (ht [] s1 (start N vs) H _ I hq) (fun fl s' hs => ?_) fun e s' hs => hs
 have fin : ∀ {σ' : St} {H' : Hp} {v : V} {u : Value}, Inv (cxOf CX P w K mg base N qual scope f cdv A outer s H E) [] σ' H' s' -> RelV v u -> Q v H' -> CE outer P w H s Q u s' :=
  fun {σ' H' v u} J rv q => ⟨v, H', J.os, J.bare, J.base, J.hok, rv, q⟩
 cases fl with
 | ret u =>
  obtain ⟨v, σ', H', J, rv, q⟩ := hs
  exact fin J rv q
 | next =>
  obtain ⟨σ', H', J, q⟩ := hs
  exact fin (v := V.non) (u := Value.none) J rfl q
 | brk =>
  obtain ⟨_, _, _, q⟩ := hs
  exact False.elim q
 | cont =>
  obtain ⟨_, _, _, q⟩ := hs
  exact False.elim q
end L2
namespace L2
open PySem PySem.Spec PyProof.Rows
section
variable {X : Cx} {x : Str} {p pos : Pos} {e : Expr} {es : List Expr} {t : TA} {id T : String} {r : List V -> Hp -> VK -> Prop}
noncomputable def tCB (r : List V -> Hp -> VK -> Prop) (t : TA) : TE := fun σ H Q => t σ H fun vs H1 => r vs H1 Q
theorem pe_callB (hc : CallR X (.builtin id) r) (hg : Gl X x) (hm : X.mg x = none) (hv : bootBuiltins x = some (.builtin id)) (ha : PA X (e :: es) t) (hn : x ≠ "__name__" := by decide) (hdb : (x == ("__debug__" : Str)) = false := by decide)
  (he : starEach (e :: es) X.env = (false, eval e X.env) :: starEach es X.env := by rfl) (hpl : (backTo pos (starEach es X.env)).any (·.1) = false := by rfl) : PE X (.Call (.Name x p) (e :: es) [] pos) (tCB r t) := by
 (first | refine ⟨?_⟩ | skip); intro pins s σ H Q I h
 refine wpAny_Call_Name_kw (ld_blt I hg hm hv ?_ hn hdb)
 exact PyProof.Rows.callWith_builtin1 (thn (ha pos pins s σ H _ I h) fun us s1 ⟨vs, H1, I1, r1, q1⟩ => hc pins s1 σ H1 vs us Q I1 r1 q1) he hpl
theorem pe_callTy (hc : CallR X (.type T) r) (hg : Gl X x) (hm : X.mg x = none) (hv : bootBuiltins x = some (.type T)) (ha : PA X (e :: es) t) (hn : x ≠ "__name__" := by decide) (hdb : (x == ("__debug__" : Str)) = false := by decide)
  (he : starEach (e :: es) X.env = (false, eval e X.env) :: starEach es X.env := by rfl) (hpl : (backTo pos (starEach es X.env)).any (·.1) = false := by rfl) : PE X (.Call (.Name x p) (e :: es) [] pos) (tCB r t) := by
 (first | refine ⟨?_⟩ | skip); intro pins s σ H Q I h
 refine wpAny_Call_Name_kw (ld_blt I hg hm hv ?_ hn hdb)
 exact PyProof.Rows.callWith_type1 (thn (ha pos pins s σ H _ I h) fun us s1 ⟨vs, H1, I1, r1, q1⟩ => hc pins s1 σ H1 vs us Q I1 r1 q1) he hpl
end
end L2
namespace HT
open PySem PyProof.Rows
section
variable {prog : Program} {w : World} {A : Around} {E : Value -> Shared -> Prop} {s : Shared}
theorem cat_tup {t b : Addr} {vs ws : List Value} {Q : Value -> Shared -> Prop} (ht : IsTup s.heap t vs.toArray) (hb : IsTup s.heap b ws.toArray) (hv : vs ≠ [])
  (h1 : ws = [] -> Q (.ref t) s) (h2 : ws ≠ [] -> Q (.ref s.heap.objs.size) { s with heap := s.heap.push { cls := .type "tuple", data := .seq (vs ++ ws).toArray } })
  (hsz : vs.length + ws.length <= sizeLine) : wpAny (model prog w) A (binaryOp .Add (.ref t) (.ref b)) Q E s := by
 obtain ⟨⟨cls, dd, data, sl⟩, ho, hc, n, hd⟩ := id ht
 obtain ⟨⟨cls2, dd2, data2, sl2⟩, ho2, hc2, n2, hd2⟩ := id hb
 simp only at hc hd hc2 hd2
 subst hc hd hc2 hd2
 have e : vs.toArray ++ ws.toArray = (vs ++ ws).toArray := by simp
 by_cases hw : ws = []
 ·exact concat_meets ⟨_, ho, rfl⟩ ⟨_, ho2, rfl⟩ noFill_tuple_add seq_tuple_add PySem.F.slot_tuple_add PySem.F.entry_tuple_add (PySem.F.args_tuple_add_2 _ _)
   (tuple_addW1 t b vs.toArray ws.toArray n n2 dd dd2 sl sl2 (by simpa using hv) (by simp [hw])) ⟨ho, ho2, h1 hw⟩
 ·refine concat_meets ⟨_, ho, rfl⟩ ⟨_, ho2, rfl⟩ noFill_tuple_add seq_tuple_add PySem.F.slot_tuple_add PySem.F.entry_tuple_add (PySem.F.args_tuple_add_2 _ _)
   (tuple_addW2 t b vs.toArray ws.toArray n n2 dd dd2 sl sl2 (by simpa using hv) (by simpa using hw) (by rw [List.size_toArray, List.size_toArray]; exact hsz)) ⟨ho, ho2, ?_⟩
  rw [e]
  exact h2 hw
noncomputable def sIx (n d : Nat) : Option Int -> Nat
 | none => d
 | some v => if v < 0 then (v + (n : Int)).toNat else min v.toNat n
theorem sIx_none (n d : Nat) : sIx n d none = d := rfl
theorem sIx_nat (n d k : Nat) : sIx n d (some (k : Int)) = min k n := by
 show (if (k : Int) < 0 then ((k : Int) + (n : Int)).toNat else min (k : Int).toNat n) = min k n
 rw [if_neg (by omega), Int.toNat_natCast]
theorem sIx_le (n d : Nat) (hd : d <= n) (o : Option Int) : sIx n d o <= n := by
 cases o with
 | none => exact hd
 | some v =>
  show (if v < 0 then (v + (n : Int)).toNat else min v.toNat n) <= n
  by_cases hv : v < 0
  ·rw [if_pos hv]; omega
  ·rw [if_neg hv]; exact Nat.min_le_right _ _
theorem clip_eq (v : Int) (n d : Nat) : (if v < 0 then max (v + (n : Int)) 0 else min v (n : Int)) = ((sIx n d (some v) : Nat) : Int) := by
 show (if v < 0 then max (v + (n : Int)) 0 else min v (n : Int)) = (((if v < 0 then (v + (n : Int)).toNat else min v.toNat n) : Nat) : Int)
 by_cases hv : v < 0
 ·simp only [if_pos hv]; omega
 ·simp only [if_neg hv]; omega
theorem adjust_gen (lo hi : Option Int) (n : Nat) : Builtin.Slice.sliceAdjust lo hi 1 (n : Int) = (((sIx n 0 lo : Nat) : Int), ((sIx n n hi : Nat) : Int)) := by
 have h1 : ¬ ((1 : Int) < 0) := by omega
 unfold Builtin.Slice.sliceAdjust
 simp only [h1, if_false]
 refine Prod.ext ?_ ?_
 ·cases lo with
  | none => rfl
  | some v => exact clip_eq v n 0
 ·cases hi with
  | none => rfl
  | some v => exact clip_eq v n n
theorem places_gen (i j : Nat) : Builtin.Slice.slicePlaces (i : Int) (j : Int) 1 = j - i := by
 unfold Builtin.Slice.slicePlaces
 have h1 : (1 : Int) > 0 := by omega
 simp only [h1, if_true, Int.ediv_one]
 split <;> omega
theorem slicePart_ {v : Value} {o : Option Int} {Q : Option Int -> Shared -> Prop} (p : IsPart v o) (h : Q o s) : wpAny (model prog w) A (Builtin.Slice.slicePartIndex v) Q E s := by
 cases p with
 | none => exact slicePart_none h
 | int i t => exact slicePart_int h
theorem sliceApplied_gen {sl : Addr} {vl vu : Value} {lo hi : Option Int} {n : Nat} {Q : Int × Int × Nat -> Shared -> Prop} (hs : s.heap.IsSliceOf sl vl vu .none) (pl : IsPart vl lo) (pu : IsPart vu hi)
  (h : Q (((sIx n 0 lo : Nat) : Int), 1, sIx n n hi - sIx n 0 lo) s) : wpAny (model prog w) A (Builtin.Slice.sliceApplied (.ref sl) (pure (n : Int))) Q E s := by
 obtain ⟨os, hos, hcs, hds⟩ := id hs
 unfold Builtin.Slice.sliceApplied Builtin.Slice.sliceFields
 refine wpAny_bind (wpAny_bind (wpAny_field hos hds (x := vl) rfl (wpAny_bind (wpAny_field hos hds (x := vu) rfl (wpAny_bind (wpAny_field hos hds (x := .none) rfl (wpAny_pure ?_)))))))
 refine wpAny_bind (slicePart_none ?_)
 show wpAny _ _ (if ((1 : Int) == 0) = true then _ else _) _ _ s
 rw [if_neg (by decide)]
 refine wpAny_bind (slicePart_ pl (wpAny_bind (slicePart_ pu (wpAny_bind (wpAny_pure ?_)))))
 show wpAny _ _ (match Builtin.Slice.sliceAdjust lo hi 1 (n : Int) with | (lo, hi) => pure (lo, (1 : Int), Builtin.Slice.slicePlaces lo hi 1)) _ _ s
 rw [adjust_gen lo hi n]
 show wpAny _ _ (pure (((sIx n 0 lo : Nat) : Int), (1 : Int), Builtin.Slice.slicePlaces ((sIx n 0 lo : Nat) : Int) ((sIx n n hi : Nat) : Int) 1)) _ _ s
 rw [places_gen]
 exact wpAny_pure h
theorem pick_gen (xs : Array Value) (i k : Nat) : ((List.range k).filterMap fun (m : Nat) => xs[((i : Int) + (m : Int) * 1).toNat]?).toArray = ((xs.toList.drop i).take k).toArray := by
 have e : (fun (m : Nat) => xs[((i : Int) + (m : Int) * 1).toNat]?) = fun m => xs[i + m]? := by
  funext m
  have : ((i : Int) + (m : Int) * 1).toNat = i + m := by omega
  rw [this]
 rw [e]
 have := pick_run xs i k
 rw [List.filterMap_map] at this
 have e2 : ((fun x => xs[x]?) ∘ fun x => i + x) = fun m => xs[i + m]? := rfl
 rw [e2] at this
 rw [this]
theorem getItem_tuple_cut {t sl : Addr} {items : Array Value} {vl vu : Value} {lo hi : Option Int} {Q : Value -> Shared -> Prop} (ht : IsTup s.heap t items) (hs : s.heap.IsSliceOf sl vl vu .none) (pl : IsPart vl lo) (pu : IsPart vu hi)
  (hw : ¬ (sIx items.size 0 lo = 0 /\ sIx items.size items.size hi = items.size))
  (h : Q (.ref s.heap.objs.size) { s with heap := s.heap.push { cls := .type "tuple", data := .seq ((items.toList.drop (sIx items.size 0 lo)).take (sIx items.size items.size hi - sIx items.size 0 lo)).toArray } })
  (hsz : items.size <= sizeLine) : wpAny (model prog w) A (getItem (.ref t) (.ref sl)) Q E s := by
 have htake : sizeOk (.seq ((items.toList.drop (sIx items.size 0 lo)).take (sIx items.size items.size hi - sIx items.size 0 lo)).toArray) := by
  show ((items.toList.drop (sIx items.size 0 lo)).take (sIx items.size items.size hi - sIx items.size 0 lo)).toArray.size <= sizeLine
  rw [List.size_toArray, List.length_take, List.length_drop, Array.length_toList]
  omega
 have hj : sIx items.size items.size hi <= items.size := sIx_le _ _ (Nat.le_refl _) hi
 obtain ⟨os, hos, hcs, hds⟩ := id hs
 have hTs : s.TypeIs (.ref sl) "slice" := ⟨os, hos, hcs⟩
 unfold getItem
 try with_reducible refine wpAny_holding ?_
 first | refine wpAny_bind (wpAny_pure ?_) | skip
 refine wpAny_bind (wpAny_sequenceKey ht.typeIs (by decide) ?_)
 refine wpAny_bind (wpAny_callSpecial?_slot (name := Str.ofString "__getitem__") ht.typeIs PyProof.Rows.slot_tuple_getitem
  (wpAny_call_entry PyProof.Rows.slot_tuple_getitem ht.typeIs entry_tuple_getitem ?_ (args_tuple_getitem _ _)))
 show wpAny _ _ (Builtin.Tuple.tupleItemsOf (.ref t) >>= _) _ _ s
 refine wpAny_bind (tupleItemsOf_ ht ?_)
 refine wpAny_bind (wpAny_typeOf hTs ?_)
 rw [if_pos (by decide)]
 refine wpAny_bind (sliceApplied_gen hs pl pu ?_)
 have hno : ¬ ((((sIx items.size 0 lo : Nat) : Int) == 0 && (1 : Int) == 1 && (sIx items.size items.size hi - sIx items.size 0 lo) == items.size) = true) := by
  intro q
  rw [Bool.and_eq_true, Bool.and_eq_true] at q
  have q1 : ((sIx items.size 0 lo : Nat) : Int) = 0 := eq_of_beq q.1.1
  have q2 : sIx items.size items.size hi - sIx items.size 0 lo = items.size := eq_of_beq q.2
  exact hw ⟨by omega, by omega⟩
 show wpAny _ _ (if (((sIx items.size 0 lo : Nat) : Int) == 0 && (1 : Int) == 1 && (sIx items.size items.size hi - sIx items.size 0 lo) == items.size) = true then _ else _) _ _ s
 rw [if_neg hno, pick_gen]
 first
  | exact wpAny_bind (m := Builtin.Tuple.tupleExact _) (wpAny_newObj_type (wpAny_pure ⟨_, rfl, wpAny_pure h⟩) htake)
  | exact wpAny_bind (m := Builtin.Tuple.tupleExact _) (wpAny_newObj_type (wpAny_bind (wpAny_pure (wpAny_pure ⟨_, rfl, wpAny_pure h⟩))) htake)
  | exact wpAny_bind (wpAny_bind (m := Builtin.Tuple.tupleExact _) (wpAny_newObj_type (wpAny_pure (wpAny_pure ⟨_, rfl, wpAny_pure h⟩)) htake))
  | exact wpAny_bind (wpAny_bind (m := Builtin.Tuple.tupleExact _) (wpAny_newObj_type (wpAny_pure ⟨_, rfl, wpAny_pure h⟩) htake))
end
end HT
namespace L2
open PySem PySem.Spec PyProof.Rows
noncomputable abbrev TO := St -> Hp -> (Option Int -> Hp -> Prop) -> Prop
noncomputable def PO (X : Cx) (e : Option Expr) (t : TO) : Prop :=
 ∀ (pins : List (Addr × Obj)) (s : Shared) (σ : St) (H : Hp) (Q : Option Int -> Hp -> Prop), Inv X pins σ H s -> t σ H Q ->
  wpAny (model X.prog X.w) X.A (evalPart e X.env) (fun u s' => ∃ o H', Inv X pins σ H' s' /\ IsPart u o /\ Q o H') X.xe s
noncomputable def tNoPart : TO := fun _ H Q => Q none H
noncomputable def tPart (t : TE) : TO := fun σ H Q => t σ H fun x H1 => ∃ i, x = .int i /\ Q (some i) H1
section
variable {X : Cx} {e : Expr} {te : TE} {lo hi : Option Expr} {tl th : TO} {pos p2 : Pos}
theorem po_none : PO X none tNoPart := by
 (first | refine ⟨?_⟩ | skip); intro pins s σ H Q I h
 rw [evalPart_none]
 exact wpAny_pure ⟨none, H, I, .none, h⟩
theorem po_some (h : PE X e te) : PO X (some e) (tPart te) := by
 (first | refine ⟨?_⟩ | skip); intro pins s σ H Q I hw
 rw [evalPart_some]
 refine thn (h pins s σ H _ I hw) fun u s1 ⟨x, H1, I1, r1, q1⟩ => ?_
 obtain ⟨i, rfl, q⟩ := q1
 obtain ⟨t, rfl⟩ := r1
 exact ⟨some i, H1, I1, .int i t, q⟩
noncomputable def SlR (X : Cx) (r : V -> Option Int -> Option Int -> Hp -> VK -> Prop) : Prop :=
 ∀ (pins : List (Addr × Obj)) (s : Shared) (σ : St) (H : Hp) (x : V) (v vl vu : Value) (lo hi : Option Int) (sl : Addr) (Q : VK), Inv X pins σ H s -> RelV x v -> s.heap.IsSliceOf sl vl vu .none -> IsPart vl lo -> IsPart vu hi -> r x lo hi H Q ->
  ∃ T id, typeLookup (.type T) "__getitem__" = pure (some (.builtin id)) /\ s.TypeIs v T /\ wpAny (model X.prog X.w) X.A (getItem v (.ref sl)) (EP X pins σ Q) X.xe s
theorem SlR.or {r r' : V -> Option Int -> Option Int -> Hp -> VK -> Prop} (h : SlR X r) (h' : SlR X r') : SlR X (fun x lo hi H Q => r x lo hi H Q \/ r' x lo hi H Q) := by
 (first | refine ⟨?_⟩ | skip); intro pins s σ H x v vl vu lo hi sl Q I rx hs pl pu q
 rcases q with q | q
 ·exact h pins s σ H x v vl vu lo hi sl Q I rx hs pl pu q
 ·exact h' pins s σ H x v vl vu lo hi sl Q I rx hs pl pu q
noncomputable def tSl (r : V -> Option Int -> Option Int -> Hp -> VK -> Prop) (te : TE) (tl th : TO) : TE := fun σ H Q => te σ H fun x H1 => tl σ H1 fun l H2 => th σ H2 fun u H3 => r x l u H3 Q
theorem pe_slice {r : V -> Option Int -> Option Int -> Hp -> VK -> Prop} (hr : SlR X r) (he : PE X e te) (hl : PO X lo tl) (hu : PO X hi th) : PE X (.Subscript e (.Slice lo hi none p2) pos) (tSl r te tl th) := by
 (first | refine ⟨?_⟩ | skip); intro pins s σ H Q I h
 refine Subscript_ (thn (he pins s σ H _ I h) fun v s1 ⟨x, H1, I1, r1, q1⟩ => ?_)
 refine wpAny_Slice (thn (hl pins s1 σ H1 _ I1 q1) fun vl s2 ⟨l, H2, I2, pl, q2⟩ => thn (hu pins s2 σ H2 _ I2 q2) fun vu s3 ⟨u, H3, I3, pu, q3⟩ => ?_)
 rw [evalPart_none]
 refine wpAny_pure ?_
 have I4 : Inv X pins σ H3 { s3 with heap := s3.heap.push { cls := .type "slice", data := .fields #[vl, vu, .none] } } := I3.kept (t' := s3.toks) fun b ob q => Heap.get?_push_of_some _ q
 obtain ⟨T, id, hT, ht, hg⟩ := hr pins { s3 with heap := s3.heap.push { cls := .type "slice", data := .fields #[vl, vu, .none] } } σ H3 x v vl vu l u s3.heap.objs.size Q I4 r1 (Heap.IsSliceOf.new ..) pl pu q3
 show wpAny (model X.prog X.w) X.A (subscriptTail e (.Slice lo hi none p2) v (.ref s3.heap.objs.size)) (EP X pins σ Q) X.xe { s3 with heap := s3.heap.push { cls := .type "slice", data := .fields #[vl, vu, .none] } }
 exact tail_any (ops := [.ref s3.heap.objs.size, v]) ht hT hg (by with_unfolding_all rfl)
noncomputable def cutV (xs : List V) (lo hi : Option Int) : List V := (xs.drop (HT.sIx xs.length 0 lo)).take (HT.sIx xs.length xs.length hi - HT.sIx xs.length 0 lo)
theorem cutV_length (xs : List V) (lo hi : Option Int) : (cutV xs lo hi).length <= xs.length := by
 unfold cutV
 rw [List.length_take, List.length_drop]
 omega
noncomputable def rSlT (K : PySem.W.Frag) : V -> Option Int -> Option Int -> Hp -> VK -> Prop := fun x lo hi H Q => ∃ a xs, x = .ref a /\ SqT K H a xs /\
 ¬ (HT.sIx xs.length 0 lo = 0 /\ HT.sIx xs.length xs.length hi = xs.length) /\ ∀ p, H p = none -> Q (.ref p) (upd H p (.tup (cutV xs lo hi)))
theorem sl_tup : SlR X (rSlT X.K) := by
 (first | refine ⟨?_⟩ | skip); intro pins s σ H x v vl vu lo hi sl Q I rx hs pl pu h
 obtain ⟨a, xs, rfl, hx, hw, q⟩ := h
 cases rx
 obtain ⟨its, r, ht, hz⟩ := I.tuple hx
 have hlen : its.toArray.size = xs.length := by rw [List.size_toArray]; exact r.length.symm
 refine ⟨"tuple", _, PyProof.Rows.slot_tuple_getitem.lookup, ht.typeIs, ?_⟩
 refine HT.getItem_tuple_cut ht hs pl pu (by rw [hlen]; exact hw) ?_ (by rw [hlen]; exact hz)
 rw [hlen]
 refine ⟨.ref s.heap.objs.size, _, I.laid (t' := s.toks) (o := .tup (cutV xs lo hi)) (fun b ob q => Heap.get?_push_of_some _ q) (Nat.le_refl _) ?_, rfl, q _ (I.hok.fresh (Nat.le_refl _))⟩
 exact ⟨Nat.le_trans (cutV_length xs lo hi) hz, _, (r.drop (HT.sIx xs.length 0 lo)).take (HT.sIx xs.length xs.length hi - HT.sIx xs.length 0 lo), TupX.new _ _⟩
noncomputable def rCatT (K : PySem.W.Frag) : R2 := fun x y H Q => ∃ a b xs ys, x = .ref a /\ y = .ref b /\ SqT K H a xs /\ SqT K H b ys /\ xs ≠ [] /\ xs.length + ys.length <= sizeLine /\
 (ys = [] -> Q (.ref a) H) /\ (ys ≠ [] -> ∀ p, H p = none -> Q (.ref p) (upd H p (.tup (xs ++ ys))))
theorem Vals.nil_iff {xs : List V} {us : List Value} (r : Vals xs us) : us = [] ↔ xs = [] := by
 cases r with
 | nil => simp
 | cons _ _ => simp
theorem op_catT : OpR X (binaryOp .Add) (rCatT X.K) := by
 (first | refine ⟨?_⟩ | skip); intro pins s σ H x y v u Q I rx ry h
 obtain ⟨a, b, xs, ys, rfl, rfl, ha, hb, hx, hz, q1, q2⟩ := h
 cases rx
 cases ry
 obtain ⟨its, r1, p1, _⟩ := I.tuple ha
 obtain ⟨its2, r2, p2, _⟩ := I.tuple hb
 refine HT.cat_tup p1 p2 (fun z => hx (r1.nil_iff.mp z)) (fun z => ⟨.ref a, H, I, rfl, q1 (r2.nil_iff.mp z)⟩) (fun z => ?_) (by rw [← r1.length, ← r2.length]; exact hz)
 refine ⟨.ref s.heap.objs.size, _, I.laid (t' := s.toks) (o := .tup (xs ++ ys)) (fun b ob q => Heap.get?_push_of_some _ q) (Nat.le_refl _) ?_, rfl, q2 (fun w => z (r2.nil_iff.mpr w)) _ (I.hok.fresh (Nat.le_refl _))⟩
 exact ⟨by rw [List.length_append]; exact hz, _, r1.append r2, TupX.new _ _⟩
end
end L2
namespace L2
open PySem PySem.Spec PyProof.Rows
noncomputable def ixN (n : Nat) (i : Int) : Option Nat := if 0 <= i then (if i < n then some i.toNat else none) else if -(n : Int) <= i then some (i + n).toNat else none
noncomputable def atI {α : Type} (xs : List α) (i : Int) : Option α := (ixN xs.length i).bind fun j => xs[j]?
theorem ixN_seq {n : Nat} {i : Int} {j : Nat} (h : ixN n i = some j) : seqIndex? i n = some j /\ j < n /\ -(n : Int) <= i /\ i < n := by
 unfold ixN at h
 by_cases h0 : 0 <= i
 ·rw [if_pos h0] at h
  by_cases h1 : i < n
  ·rw [if_pos h1] at h
   have e : i.toNat = j := Option.some.inj h
   exact ⟨by rw [seqIndex_of h0 h1, e], by omega, by omega, h1⟩
  ·rw [if_neg h1] at h; cases h
 ·rw [if_neg h0] at h
  by_cases h1 : -(n : Int) <= i
  ·rw [if_pos h1] at h
   have e : (i + n).toNat = j := Option.some.inj h
   exact ⟨by rw [seqIndex_neg (by omega) h1, e], by omega, h1, by omega⟩
  ·rw [if_neg h1] at h; cases h
theorem atI_get {α : Type} {xs : List α} {i : Int} {v : α} (h : atI xs i = some v) : ∃ j, seqIndex? i xs.length = some j /\ xs[j]? = some v /\ j < xs.length /\ -(xs.length : Int) <= i /\ i < xs.length := by
 unfold atI at h
 cases e : ixN xs.length i with
 | none => rw [e] at h; cases h
 | some j =>
  rw [e] at h
  obtain ⟨h1, h2, h3, h4⟩ := ixN_seq e
  exact ⟨j, h1, h, h2, h3, h4⟩
theorem atI_nat {α : Type} {xs : List α} {j : Nat} {v : α} (h : xs[j]? = some v) : atI xs (j : Int) = some v := by
 have hj : j < xs.length := (List.getElem?_eq_some_iff.mp h).1
 have e : ixN xs.length (j : Int) = some j := by
  unfold ixN
  rw [if_pos (by omega), if_pos (by omega)]; simp
 unfold atI; rw [e]; exact h
noncomputable def PlainIx (b : Expr) : Prop := ∀ o i, subscripted b false o i = operate [o, i] (getItem o i)
noncomputable def IxR (X : Cx) (r : R2) : Prop :=
 ∀ (value slice : Expr) (pins : List (Addr × Obj)) (s : Shared) (σ : St) (H : Hp) (x y : V) (v u : Value) (Q : VK), Inv X pins σ H s -> RelV x v -> RelV y u -> r x y H Q ->
  subscripted slice false v u = operate [v, u] (getItem v u) -> wpAny (model X.prog X.w) X.A (subscriptTail value slice v u) (EP X pins σ Q) X.xe s
noncomputable def MtR (X : Cx) (id : String) (r : V -> List V -> Hp -> VK -> Prop) : Prop :=
 ∀ (pins : List (Addr × Obj)) (s : Shared) (σ : St) (H : Hp) (x : V) (xs : List V) (v : Value) (us : List Value) (Q : VK), Inv X pins σ H s -> RelV x v -> Vals xs us -> r x xs H Q ->
  wpAny (model X.prog X.w) X.A (call (.builtin id) (v :: us)) (EP X pins σ Q) X.xe s
section
variable {X : Cx} {a b : Expr} {ta tb : TE} {pos : Pos}
theorem IxR.or {r r' : R2} (h : IxR X r) (h' : IxR X r') : IxR X (fun x y H Q => r x y H Q \/ r' x y H Q) := by
 intro value slice pins s σ H x y v u Q I rx ry q hs
 rcases q with q | q
 ·exact h value slice pins s σ H x y v u Q I rx ry q hs
 ·exact h' value slice pins s σ H x y v u Q I rx ry q hs
theorem MtR.or {id : String} {r r' : V -> List V -> Hp -> VK -> Prop} (h : MtR X id r) (h' : MtR X id r') : MtR X id (fun x xs H Q => r x xs H Q \/ r' x xs H Q) := by
 (first | refine ⟨?_⟩ | skip); intro pins s σ H x xs v us Q I rx rs q
 rcases q with q | q
 ·exact h pins s σ H x xs v us Q I rx rs q
 ·exact h' pins s σ H x xs v us Q I rx rs q
theorem pe_ix {r : R2} (hr : IxR X r) (ha : PE X a ta) (hb : PE X b tb) (hs : PlainIx b) : PE X (.Subscript a b pos) (tOp r ta tb) := by
 (first | refine ⟨?_⟩ | skip); intro pins s σ H Q I h
 exact Subscript_ (binT ha hb I h fun v u s2 x y H2 I2 rx ry q => hr a b pins s2 σ H2 x y v u Q I2 rx ry q (hs _ _))
noncomputable def rIxL (K : PySem.W.Frag) : R2 := fun x y H Q => ∃ p xs i v, x = .ref p /\ y = .int i /\ SqL K H p xs /\ atI xs i = some v /\ Q v H
noncomputable def rIxT (K : PySem.W.Frag) : R2 := fun x y H Q => ∃ p xs i v, x = .ref p /\ y = .int i /\ SqT K H p xs /\ atI xs i = some v /\ Q v H
noncomputable def rIxS : R2 := fun x y H Q => ∃ z i c, x = .str z /\ y = .int i /\ z.length <= sizeLine /\ atI z.cps.toList i = some c /\ Q (.str ⟨#[c]⟩) H
theorem ix_list : IxR X (rIxL X.K) := by
 intro value slice pins s σ H x y v u Q I rx ry h hs
 obtain ⟨p, xs, i, z, rfl, rfl, hq, he, q⟩ := h
 cases rx
 obtain ⟨t, rfl⟩ := ry
 obtain ⟨its, r, pl, hz⟩ := I.list hq
 obtain ⟨j, h1, h2, h3, h4, h5⟩ := atI_get he
 obtain ⟨w, ew, rw'⟩ := r.get h2
 have hl := r.length
 have hn := line63
 have fin : EP X pins σ Q w s := ⟨z, H, I, rw', q⟩
 by_cases h0 : 0 <= i
 ·have hj : i.toNat = j := by
   rw [seqIndex_of h0 h5] at h1
   exact Option.some.inj h1
  exact item_listR pl.isList h0 (by omega) (by rw [hj]; simpa using ew) fin hs
 ·have hj : (i + (its.toArray.size : Int)).toNat = j := by
   rw [seqIndex_neg (by omega) h4] at h1
   rw [List.size_toArray, ← hl]
   exact Option.some.inj h1
  exact subscriptTail_builtinR (x := w) pl.isList.typeIs slot_list_getitem.lookup
   (wpAny_getItem_list_neg (Q := fun r s' => r = w /\ EP X pins σ Q r s') pl.isList (by omega) (by rw [List.size_toArray] <;> omega) (by omega) (by rw [hj]; simpa using ew) ⟨rfl, fin⟩) hs
theorem ix_tup : IxR X (rIxT X.K) := by
 intro value slice pins s σ H x y v u Q I rx ry h hs
 obtain ⟨p, xs, i, z, rfl, rfl, hq, he, q⟩ := h
 cases rx
 obtain ⟨t, rfl⟩ := ry
 obtain ⟨its, r, pl, hz⟩ := I.tuple hq
 obtain ⟨j, h1, h2, h3, h4, h5⟩ := atI_get he
 obtain ⟨w, ew, rw'⟩ := r.get h2
 have hl := r.length
 have hn := line63
 have fin : EP X pins σ Q w s := ⟨z, H, I, rw', q⟩
 exact subscriptTail_builtinR (x := w) pl.typeIs slot_tuple_getitem.lookup
  (getItem_tuple (j := j) (Q := fun r s' => r = w /\ EP X pins σ Q r s') pl (by omega) (by omega) (by rw [List.size_toArray, ← hl]; exact h1) (by simpa using ew) ⟨rfl, fin⟩) hs
theorem ix_str : IxR X rIxS := by
 intro value slice pins s σ H x y v u Q I rx ry h hs
 obtain ⟨z, i, c, rfl, rfl, hz, he, q⟩ := h
 obtain ⟨t, rfl⟩ := rx
 obtain ⟨t', rfl⟩ := ry
 obtain ⟨j, h1, h2, h3, h4, h5⟩ := atI_get he
 have hl : z.cps.toList.length = z.length := by simp [Str.length]
 rw [hl] at h1 h4 h5
 have hn := line63
 exact tail_any (typeIs_str s z t) slot_str_getitem.lookup (getItem_str (c := c) (by
  have e1 : decide (i < -(2 ^ 63 : Int)) = false := decide_eq_false (by omega)
  have e2 : decide (i ≥ 2 ^ 63) = false := decide_eq_false (by omega)
  rw [e1, e2, Bool.or_false]) (by rw [h1]; simpa using h2) ⟨.str ⟨#[c]⟩, H, I.tok _, ⟨_, rfl⟩, q⟩) hs
noncomputable def rIx (K : PySem.W.Frag) : R2 := fun x y H Q => rIxL K x y H Q \/ rIxT K x y H Q \/ rIxS x y H Q
theorem ix_seq : IxR X (rIx X.K) := ix_list.or (ix_tup.or ix_str)
theorem mapSeq_set (its : List Value) (n j : Nat) (u : Value) : Obj.mapSeq (·.setIfInBounds j u) { cls := .type "list", data := .seq its.toArray n } = { cls := .type "list", data := .seq (its.set j u).toArray n } := by
 simp [Obj.mapSeq]
theorem Inv.lst {pins : List (Addr × Obj)} {σ : St} {H : Hp} {s : Shared} {p : Addr} {xs : List V} (I : Inv X pins σ H s) (h : H p = some (.lst xs)) :
  ∃ (its : List Value) (n : Nat), Vals xs its /\ s.heap.get? p = some { cls := .type "list", data := .seq its.toArray n } /\ xs.length <= sizeLine := by
 obtain ⟨z, its, n, r, e⟩ := I.hok p _ h
 exact ⟨its, n, r, e, z⟩
theorem Inv.lstUpd {pins : List (Addr × Obj)} {σ : St} {H : Hp} {s : Shared} {p : Addr} {xs ys : List V} {its its' : List Value} {n n' : Nat} {f : Obj -> Obj} (I : Inv X pins σ H s) (h : H p = some (.lst xs))
  (ho : s.heap.get? p = some { cls := .type "list", data := .seq its.toArray n }) (hf : f { cls := .type "list", data := .seq its.toArray n } = { cls := .type "list", data := .seq its'.toArray n' }) (r : Vals ys its') (hz : ys.length <= sizeLine) (t : Nat) :
  Inv X pins σ (upd H p (.lst ys)) { s with heap := s.heap.update p f, toks := t } := by
 have e : (s.heap.update p f).get? p = some { cls := .type "list", data := .seq its'.toArray n' } := by
  rw [Heap.get?_update_self f ho (by rw [hf] <;> rfl), hf]
 refine I.write (x := p) (e := p) (by rw [h]; trivial) (.inl rfl) (fun b u hb q => (Heap.get?_update_other _ _ (Ne.symm hb)).trans q) ⟨_, e⟩ ?_
 exact ⟨hz, its', n', r, e⟩
noncomputable def rSetL : V -> V -> V -> Hp -> (Hp -> Prop) -> Prop := fun o i v H Q => ∃ p xs k j, o = .ref p /\ i = .int k /\ H p = some (.lst xs) /\ ixN xs.length k = some j /\ Q (upd H p (.lst (xs.set j v)))
theorem set_list : PSet X rSetL := by
 (first | refine ⟨?_⟩ | skip); intro pins s σ H o i v ov iv u Q I ro ri rv h
 obtain ⟨p, xs, k, j, rfl, rfl, hp, hj, q⟩ := h
 cases ro
 obtain ⟨t, rfl⟩ := ri
 obtain ⟨its, n, r, ho, hz⟩ := I.lst hp
 obtain ⟨h1, h2, h3, h4⟩ := ixN_seq hj
 have hl := r.length
 have hn := line63
 have I' : Inv X pins σ (upd H p (.lst (xs.set j v))) { s with heap := s.heap.update p (Obj.mapSeq (·.setIfInBounds j u)) } :=
  I.lstUpd hp ho (mapSeq_set its n j u) (r.set rv j) (by rw [List.length_set]; exact hz) s.toks
 by_cases h0 : 0 <= k
 ·have hk : k.toNat = j := by
   rw [seqIndex_of h0 h4] at h1
   exact Option.some.inj h1
  exact PySem.W.ki_setAt ho h0 (by omega) (by rw [List.size_toArray, ← hl]; exact h4) (by rw [hk]; exact ⟨_, I', q⟩)
 ·have hk : (k + (its.toArray.size : Int)).toNat = j := by
   rw [seqIndex_neg (by omega) h3] at h1
   rw [List.size_toArray, ← hl]
   exact Option.some.inj h1
  exact PySem.W.ki_setBack ho (by omega) (by rw [List.size_toArray, ← hl]; exact h3) (by omega) (by rw [hk]; exact ⟨_, I', q⟩)
theorem slice_bounds (lo hi : Option Int) (n : Nat) : (sliceBounds lo hi none n).1 = ((HT.sIx n 0 lo : Nat) : Int) /\ (sliceBounds lo hi none n).2.1 = ((HT.sIx n n hi : Nat) : Int) /\ (sliceBounds lo hi none n).2.2 = 1 := by
 refine ⟨?_, ?_, rfl⟩
 ·cases lo with
  | none => simp [sliceBounds, HT.sIx]
  | some i =>
   simp only [sliceBounds, HT.sIx, Option.getD_none, show (1 : Int) > 0 by decide, if_true]
   by_cases h : i < 0
   ·simp only [h, if_true] <;> omega
   ·simp only [h, if_false] <;> omega
 ·cases hi with
  | none => simp [sliceBounds, HT.sIx]
  | some i =>
   simp only [sliceBounds, HT.sIx, Option.getD_none, show (1 : Int) > 0 by decide, if_true]
   by_cases h : i < 0
   ·simp only [h, if_true] <;> omega
   ·simp only [h, if_false] <;> omega
theorem slicePick_cut (its : List Value) (lo hi : Option Int) : slicePick its.toArray lo hi none = ((its.drop (HT.sIx its.length 0 lo)).take (HT.sIx its.length its.length hi - HT.sIx its.length 0 lo)).toArray := by
 obtain ⟨h1, h2, h3⟩ := slice_bounds lo hi its.toArray.size
 unfold slicePick
 rw [h1, h2, h3]
 simp only [sliceRange_one, pick_run, List.size_toArray] <;> rfl
noncomputable def rSlL (K : PySem.W.Frag) : V -> Option Int -> Option Int -> Hp -> VK -> Prop := fun x lo hi H Q => ∃ a xs, x = .ref a /\ SqL K H a xs /\ ∀ p, H p = none -> Q (.ref p) (upd H p (.lst (cutV xs lo hi)))
theorem sl_list : SlR X (rSlL X.K) := by
 (first | refine ⟨?_⟩ | skip); intro pins s σ H x v vl vu lo hi sl Q I rx hs pl pu h
 obtain ⟨a, xs, rfl, hx, q⟩ := h
 cases rx
 obtain ⟨its, r, ht, hz⟩ := I.list hx
 have hlen := r.length
 refine ⟨"list", _, slot_list_getitem.lookup, ht.isList.typeIs, ?_⟩
 refine wpAny_getItem_list_slice ht.isList hs pl pu .none (by simp) ?_ (by rw [List.size_toArray] <;> omega)
 rw [slicePick_cut, ← hlen]
 refine ⟨.ref s.heap.objs.size, _, I.laid (t' := s.toks) (o := .lst (cutV xs lo hi)) (fun b ob q => Heap.get?_push_of_some _ q) (Nat.le_refl _) ?_, rfl, q _ (I.hok.fresh (Nat.le_refl _))⟩
 exact ⟨Nat.le_trans (cutV_length xs lo hi) hz, _, 0, (r.drop (HT.sIx xs.length 0 lo)).take (HT.sIx xs.length xs.length hi - HT.sIx xs.length 0 lo), Heap.get?_push_size _ rfl⟩
theorem call_len_seq : CallR X (.builtin "len") (fun xs H Q => ∃ p ys, xs = [.ref p] /\ (SqL X.K H p ys \/ SqT X.K H p ys) /\ Q (.int ys.length) H) := by
 (first | refine ⟨?_⟩ | skip); intro pins s σ H xs us Q I r h
 obtain ⟨p, ys, rfl, hq, q⟩ := h
 obtain ⟨u, rfl, rx⟩ := vals1 r
 cases rx
 have hn := line63
 rcases hq with hq | hq
 ·obtain ⟨its, r', pl, hz⟩ := I.list hq
  have hlen := r'.length
  exact Calls.call_len_list pl.isList (by simp only [List.size_toArray] <;> omega) ⟨.int ys.length, H, I.tok _, ⟨s.toks + 1, by rw [List.size_toArray, hlen]⟩, q⟩
 ·obtain ⟨its, r', pl, hz⟩ := I.tuple hq
  have hlen := r'.length
  exact len_tuple pl (by simp only [List.size_toArray] <;> omega) ⟨.int ys.length, H, I.tok _, ⟨s.toks + 1, by rw [List.size_toArray, hlen]⟩, q⟩
theorem call_len_str : CallR X (.builtin "len") (fun xs H Q => ∃ z, xs = [.str z] /\ z.length <= sizeLine /\ Q (.int z.length) H) := by
 (first | refine ⟨?_⟩ | skip); intro pins s σ H xs us Q I r h
 obtain ⟨z, rfl, hz, q⟩ := h
 obtain ⟨u, rfl, t, rfl⟩ := vals1 r
 have hn := line63
 exact len_str (by omega) ⟨.int z.length, H, I.tok _, ⟨_, rfl⟩, q⟩
theorem call_list_of : CallR X (.type "list") (fun xs H Q => ∃ p ys, xs = [.ref p] /\ (SqL X.K H p ys \/ SqT X.K H p ys) /\ ∀ l, H l = none -> Q (.ref l) (upd H l (.lst ys))) := by
 (first | refine ⟨?_⟩ | skip); intro pins s σ H xs us Q I r h
 obtain ⟨p, ys, rfl, hq, q⟩ := h
 obtain ⟨u, rfl, rx⟩ := vals1 r
 cases rx
 have fin : ∀ (its : List Value), Vals ys its -> ys.length <= sizeLine -> ∀ (h' : Heap) (c' : Nat), (∀ b o', s.heap.get? b = some o' -> h'.get? b = some o') ->
   h'.get? s.heap.objs.size = some { cls := .type "list", dict := none, data := .seq its.toArray c', slots := #[] } -> EP X pins σ Q (.ref s.heap.objs.size) { s with heap := h' } := fun its r' hz h' c' kp e =>
  ⟨.ref s.heap.objs.size, _, I.laid (t' := s.toks) kp (Nat.le_refl _) (show ObjOk X.prog X.w _ h' _ (.lst ys) from ⟨hz, its, c', r', e⟩), rfl, q _ (I.hok.fresh (Nat.le_refl _))⟩
 rcases hq with hq | hq
 ·obtain ⟨its, r', pl, hz⟩ := I.list hq
  have hlen := r'.length
  obtain ⟨o, ho, hc, n, hd⟩ := pl.isList
  exact call_list_seq p (.inl rfl) ho hc hd (fun h' c' kp e => fin its r' hz h' c' kp e) (by simp only [List.size_toArray] <;> omega)
 ·obtain ⟨its, r', pl, hz⟩ := I.tuple hq
  have hlen := r'.length
  obtain ⟨o, ho, hc, n, hd⟩ := pl
  exact call_list_seq p (.inr rfl) ho hc hd (fun h' c' kp e => fin its r' hz h' c' kp e) (by simp only [List.size_toArray] <;> omega)
theorem call_tuple_of : CallR X (.type "tuple") (fun xs H Q => ∃ p ys, xs = [.ref p] /\ ((SqL X.K H p ys /\ ∀ l, H l = none -> Q (.ref l) (upd H l (.tup ys))) \/ (SqT X.K H p ys /\ Q (.ref p) H))) := by
 (first | refine ⟨?_⟩ | skip); intro pins s σ H xs us Q I r h
 obtain ⟨p, ys, rfl, h⟩ := h
 obtain ⟨u, rfl, rx⟩ := vals1 r
 cases rx
 rcases h with ⟨hq, q⟩ | ⟨hq, q⟩
 ·obtain ⟨its, r', pl, hz⟩ := I.list hq
  have hlen := r'.length
  refine call_tuple_list pl.isList (fun h' kp => ?_) (by simp only [List.size_toArray] <;> omega)
  have I1 : Inv X pins σ H { s with heap := h' } := I.kept (t' := s.toks) kp
  have I2 : Inv X pins σ (upd H h'.objs.size (.tup ys)) { s with heap := h'.push { cls := .type "tuple", data := .seq its.toArray } } :=
   I1.laid (t' := s.toks) (fun b o e => Heap.get?_push_of_some _ e) (Nat.le_refl _) (show ObjOk X.prog X.w _ _ _ (.tup ys) from ⟨hz, its, r', TupX.new _ _⟩)
  exact ⟨.ref h'.objs.size, _, I2, rfl, q _ (I1.hok.fresh (Nat.le_refl _))⟩
 ·obtain ⟨its, r', pl, hz⟩ := I.tuple hq
  exact call_tuple_same pl ⟨.ref p, H, I, rfl, q⟩
noncomputable def tyV (K : PySem.W.Frag) (T : String) (x : V) (H : Hp) : Prop := match x with
 | .str _ => T = "str"
 | .int _ => T = "int"
 | .ref p => (T = "list" /\ ∃ xs, SqL K H p xs) \/ (T = "tuple" /\ ∃ o, K.lookup p = some o /\ o.cls = .type "tuple" /\ o.dict = none) \/
   (T = "dict" /\ ((∃ kvs, H p = some (.dK kvs)) \/ ∃ kvs, H p = some (.dT kvs))) \/ (T = "set" /\ ∃ S n, H p = some (.set S n))
 | _ => False
theorem tyV_is {pins : List (Addr × Obj)} {σ : St} {H : Hp} {s : Shared} {T : String} {x : V} {v : Value} (I : Inv X pins σ H s) (r : RelV x v) (ty : tyV X.K T x H) :
  s.TypeIs v T /\ ∀ a, v = .ref a -> ∃ ob, s.heap.get? a = some ob /\ ob.dict = none := by
 cases x with
 | str z =>
  obtain ⟨t, rfl⟩ := r
  cases (show T = "str" from ty)
  exact ⟨typeIs_str s z t, fun _ e => nomatch e⟩
 | int i =>
  obtain ⟨t, rfl⟩ := r
  cases (show T = "int" from ty)
  exact ⟨typeIs_int s i t, fun _ e => nomatch e⟩
 | ref p =>
  cases r
  rcases ty with ⟨rfl, xs, hq⟩ | ⟨rfl, o, hk, hc, hd⟩ | ⟨rfl, hk⟩ | ⟨rfl, S, n, hk⟩
  ·obtain ⟨its, _, pl, _⟩ := I.list hq
   refine ⟨pl.isList.typeIs, fun a e => ?_⟩
   cases e
   obtain ⟨o, n, e, c, hd, _⟩ := pl
   exact ⟨o, e, hd⟩
  ·refine ⟨⟨o, I.kIn p o hk, hc⟩, fun a e => ?_⟩
   cases e
   exact ⟨o, I.kIn _ o hk, hd⟩
  ·have z : ∃ o, s.heap.get? p = some o /\ o.ExactDict := by
    rcases hk with ⟨kvs, hk⟩ | ⟨kvs, hk⟩
    ·obtain ⟨_, _, _, _, o, _, _, e, ex, _⟩ := I.hok p _ hk
     exact ⟨o, e, ex⟩
    ·obtain ⟨_, _, _, _, o, _, _, e, ex, _⟩ := I.hok p _ hk
     exact ⟨o, e, ex⟩
   obtain ⟨o, e, ex⟩ := z
   refine ⟨⟨o, e, ex.1⟩, fun a e2 => ?_⟩
   cases e2
   exact ⟨o, e, ex.2.1⟩
  ·obtain ⟨o, _, _, _, e, ex, _⟩ := I.hok p _ hk
   refine ⟨⟨o, e, ex.1⟩, fun a e2 => ?_⟩
   cases e2
   exact ⟨o, e, ex.2.1⟩
 | _ => exact False.elim ty
noncomputable def tBM (K : PySem.W.Frag) (T : String) (r : V -> List V -> Hp -> VK -> Prop) (to : TE) (t : TA) : TE := fun σ H Q => to σ H fun x H1 => tyV K T x H1 /\ t σ H1 fun xs H2 => r x xs H2 Q
variable {o e : Expr} {es : List Expr} {to : TE} {t : TA} {name : Str} {apos cpos : Pos} {T id : String} {r : V -> List V -> Hp -> VK -> Prop}
theorem pe_bm (pa : PlainAttrs T) (slot : Slot T name id) (hty : typeOf (.builtin id) = pure (.type "method_descriptor")) (hm : MtR X id r) (ho : PE X o to) (ha : PA X (e :: es) t)
  (hbase : attributeBase o name X.env (eval o X.env) = eval o X.env := by rfl)
  (hfew : ((backTo cpos (starEach (e :: es) X.env)).all (fun x => !x.1) && (backToKw cpos (keywordEach [] X.env)).all (fun x => x.1.isSome)
   && decide ((e :: es).length + ([] : List Keyword).length + (if ([] : List Keyword).isEmpty then 0 else 1) < 30)) = true := by rfl)
  (hline : (apos.endLine == cpos.line) = true := by rfl) (hs : starEach (e :: es) X.env = (false, eval e X.env) :: starEach es X.env := by rfl) (hplain : (backTo cpos (starEach es X.env)).any (·.1) = false := by rfl) :
  PE X (.Call (.Attribute o name apos) (e :: es) [] cpos) (tBM X.K T r to t) := by
 (first | refine ⟨?_⟩ | skip); intro pins s σ H Q I h
 refine wpAny_Call_method_late hbase hfew hline rfl (thn (ho pins s σ H _ I h) fun v s1 ⟨x, H1, I1, r1, ty, q1⟩ => ?_)
 obtain ⟨h1, h2⟩ := tyV_is I1 r1 ty
 refine ⟨T, id, pa, slot, hty, h1, h2, ?_⟩
 have hA := ha cpos pins s1 σ H1 _ I1 q1
 rw [hs] at hA ⊢
 refine Calls.callWith_builtin (by show (false || (backTo cpos (starEach es X.env)).any (·.1)) = false; rw [hplain] <;> rfl) (Calls.evalArgs_plain ?_)
 exact thn hA fun us s2 ⟨vs, H2, I2, r2, q2⟩ => hm pins s2 σ H2 x vs v us Q I2 r1 r2 q2
end
end L2
namespace L2
open PySem PySem.Spec PyProof.Rows
noncomputable def MtM (X : Cx) (id : String) (r : V -> List V -> Hp -> VK -> Prop) : Prop :=
 ∀ (pins : List (Addr × Obj)) (s : Shared) (σ : St) (H : Hp) (x : V) (xs : List V) (v : Value) (us : List Value) (Q : VK), Inv X pins σ H s -> RelV x v -> Vals xs us -> r x xs H Q ->
  wpAny (model X.prog X.w) X.A (call (.builtin id) (v :: us)) (EP X pins σ Q) X.xe s
theorem Vals.one : ∀ {x : V} {us : List Value}, Vals [x] us -> ∃ u, us = [u] /\ RelV x u
 | _, _, .cons r .nil => ⟨_, rfl, r⟩
theorem Vals.two : ∀ {x y : V} {us : List Value}, Vals [x, y] us -> ∃ u v, us = [u, v] /\ RelV x u /\ RelV y v
 | _, _, _, .cons r (.cons q .nil) => ⟨_, _, rfl, r, q⟩
theorem Vals.eraseIdx : ∀ {xs : List V} {us : List Value} (i : Nat), Vals xs us -> Vals (xs.eraseIdx i) (us.eraseIdx i)
 | _, _, _, .nil => .nil
 | _, _, 0, .cons _ t => t
 | _, _, i + 1, .cons r t => .cons r (Vals.eraseIdx i t)
theorem len_erase {α : Type} : ∀ (l : List α) (i : Nat), (l.eraseIdx i).length <= l.length
 | [], _ => Nat.le_refl _
 | _ :: _, 0 => Nat.le_succ _
 | _ :: r, i + 1 => Nat.succ_le_succ (len_erase r i)
section
variable {X : Cx} {pins : List (Addr × Obj)} {σ : St} {H : Hp} {s : Shared} {l b : Addr} {xs ys zs : List V}
theorem Inv.lset {its its' : List Value} {n : Nat} {f : Array Value -> Array Value} {t' : Nat} (I : Inv X pins σ H s) (hH : H l = some (.lst xs))
  (e : s.heap.get? l = some { cls := .type "list", data := .seq its.toArray n }) (hf : f its.toArray = its'.toArray) (hv : Vals ys its') (hz : ys.length <= sizeLine) :
  Inv X pins σ (upd H l (.lst ys)) { s with heap := s.heap.update l (Obj.mapSeq f), toks := t' } := by
 have q := PySem.IsL.update e f
 rw [hf] at q
 refine I.write (x := l) (e := l) (by rw [hH]; exact trivial) (.inl rfl) (fun b' u hb hu => (Heap.get?_update_other s.heap (Obj.mapSeq f) (Ne.symm hb)).trans hu) ⟨_, q⟩ ?_
 exact ⟨hz, its', _, hv, q⟩
theorem Inv.lnew {its : List Value} {t' : Nat} (I : Inv X pins σ H s) (hv : Vals ys its) (hz : ys.length <= sizeLine) :
  Inv X pins σ (upd H s.heap.objs.size (.lst ys)) { s with heap := s.heap.push { cls := .type "list", data := .seq its.toArray }, toks := t' } :=
 I.laid (fun _ _ q => Heap.get?_push_of_some _ q) (Nat.le_refl _) ⟨hz, its, 0, hv, Heap.get?_push_size _ rfl⟩
theorem Inv.fresh (I : Inv X pins σ H s) : H s.heap.objs.size = none := I.hok.fresh (Nat.le_refl _)
theorem Inv.lstM (I : Inv X pins σ H s) (hH : H l = some (.lst xs)) : xs.length <= sizeLine /\ ∃ (its : List Value) (n : Nat), Vals xs its /\ xs.length = its.length /\ s.heap.get? l = some { cls := .type "list", data := .seq its.toArray n } := by
 obtain ⟨z, its, n, r, e⟩ := I.hok l _ hH
 exact ⟨z, its, n, r, r.length, e⟩
theorem notLongL {n : Nat} (h : n <= sizeLine) : Builtin.List.listTooLong n = false := by
 unfold Builtin.List.listTooLong
 exact decide_eq_false (by omega)
end
section
variable {X : Cx}
noncomputable def rAppend : V -> List V -> Hp -> VK -> Prop := fun x vs H Q => ∃ l xs y, x = .ref l /\ vs = [y] /\ H l = some (.lst xs) /\ xs.length < sizeLine /\ Q .non (upd H l (.lst (xs ++ [y])))
theorem mt_append : MtM X "list.append" rAppend := by
 (first | refine ⟨?_⟩ | skip); intro pins s σ H x vs v us Q I rx rv h
 obtain ⟨l, xs, y, rfl, rfl, hH, hz, q⟩ := h
 cases rx
 obtain ⟨u, rfl, ru⟩ := rv.one
 obtain ⟨z, its, n, r, hl, e⟩ := I.lstM hH
 refine call_meets F.slot_list_append ⟨_, e, rfl⟩ F.entry_list_append (F.args_list_append_2 _ _) (PySem.list_append l its.toArray n u (by rw [List.size_toArray]; omega)) ⟨e, ?_⟩
 refine ⟨.non, _, I.lset (its' := its ++ [u]) hH e (by simp) (r.append (.cons ru .nil)) ?_, rfl, q⟩
 rw [List.length_append, List.length_singleton]
 omega
noncomputable def rExtend : V -> List V -> Hp -> VK -> Prop := fun x vs H Q => ∃ l b xs zs, x = .ref l /\ vs = [.ref b] /\ H l = some (.lst xs) /\ H b = some (.lst zs) /\ xs.length + zs.length <= sizeLine /\ Q .non (upd H l (.lst (xs ++ zs)))
theorem mt_extend : MtM X "list.extend" rExtend := by
 (first | refine ⟨?_⟩ | skip); intro pins s σ H x vs v us Q I rx rv h
 obtain ⟨l, b, xs, zs, rfl, rfl, hH, hB, hz, q⟩ := h
 cases rx
 obtain ⟨u, rfl, ru⟩ := rv.one
 cases ru
 obtain ⟨z, its, n, r, hl, e⟩ := I.lstM hH
 obtain ⟨z2, its2, n2, r2, hl2, e2⟩ := I.lstM hB
 have hsz : its.toArray.size + its2.toArray.size <= sizeLine := by rw [List.size_toArray, List.size_toArray]; omega
 have hlong : ¬ (!its.toArray.isEmpty && Builtin.List.listTooLong (its.toArray.size + its2.toArray.size)) = true := by
  rw [notLongL hsz, Bool.and_false]
  exact Bool.false_ne_true
 refine call_meets F.slot_list_extend ⟨_, e, rfl⟩ F.entry_list_extend (F.args_list_extend_2 _ _)
  (AutoSeq1.list_extend_list_list_0 l its.toArray n b its2.toArray n2 hlong (by rw [List.size_toArray]; omega) (by omega)) ⟨e, e2, ?_⟩
 refine ⟨.non, _, I.lset (its' := its ++ its2) hH e (by simp) (r.append r2) ?_, rfl, q⟩
 rw [List.length_append]
 omega
noncomputable def rPopAt : V -> List V -> Hp -> VK -> Prop := fun x vs H Q => ∃ l xs i k y, x = .ref l /\ vs = [.int i] /\ H l = some (.lst xs) /\ -(2 ^ 63) <= i /\ i < 2 ^ 63 /\ seqIndex? i xs.length = some k /\ xs[k]? = some y /\ Q y (upd H l (.lst (xs.eraseIdx k)))
theorem mt_popAt : MtM X "list.pop" rPopAt := by
 (first | refine ⟨?_⟩ | skip); intro pins s σ H x vs v us Q I rx rv h
 obtain ⟨l, xs, i, k, y, rfl, rfl, hH, h1, h2, hk, hy, q⟩ := h
 cases rx
 obtain ⟨u, rfl, ru⟩ := rv.one
 obtain ⟨t, rfl⟩ := ru
 obtain ⟨z, its, n, r, hl, e⟩ := I.lstM hH
 obtain ⟨w, hw, rw'⟩ := r.get hy
 refine call_meets F.slot_list_pop ⟨_, e, rfl⟩ F.entry_list_pop (F.args_list_pop_2 _ _)
  (MeetsSeq.list_pop_at l its.toArray n i t k w (fitsIndex_both h1 h2) (by rw [List.size_toArray, ← hl]; exact hk) (by rw [← Array.getElem?_toList]; exact hw) (by rw [List.size_toArray]; omega)) ⟨e, ?_⟩
 refine ⟨y, _, I.lset (its' := its.eraseIdx k) hH e ?_ (r.eraseIdx k) ?_, rw', q⟩
 ·show its.toArray.eraseIdxIfInBounds k = (its.eraseIdx k).toArray
  rw [List.eraseIdxIfInBounds_toArray]
 ·have := len_erase xs k
  omega
noncomputable def rCat : R2 := fun x y H Q => ∃ l b xs zs, x = .ref l /\ y = .ref b /\ H l = some (.lst xs) /\ H b = some (.lst zs) /\ xs.length + zs.length <= sizeLine /\ ∀ p, H p = none -> Q (.ref p) (upd H p (.lst (xs ++ zs)))
theorem op_cat : OpR X (binaryOp .Add) rCat := by
 (first | refine ⟨?_⟩ | skip); intro pins s σ H x y v u Q I rx ry h
 obtain ⟨l, b, xs, zs, rfl, rfl, hH, hB, hz, q⟩ := h
 cases rx
 cases ry
 obtain ⟨z, its, n, r, hl, e⟩ := I.lstM hH
 obtain ⟨z2, its2, n2, r2, hl2, e2⟩ := I.lstM hB
 refine PySem.P.add_list e e2 ?_ (by rw [List.size_toArray, List.size_toArray]; omega)
 have ea : its.toArray ++ its2.toArray = (its ++ its2).toArray := by simp
 rw [ea]
 exact ⟨.ref _, _, I.lnew (t' := s.toks) (r.append r2) (by rw [List.length_append]; omega), rfl, q _ I.fresh⟩
end
end L2
namespace L2
open PySem PySem.Spec PyProof.Rows
section
variable {κ : Type} [DecidableEq κ]
noncomputable def valV (kvs : List (κ × V)) (k : κ) : Option V := (kvs.find? fun kv => decide (kv.1 = k)).map (·.2)
noncomputable def putK (kvs : List (κ × V)) (k : κ) (v : V) : List (κ × V) :=
 if (kvs.any fun kv => decide (kv.1 = k)) = true then kvs.map (fun kv => if kv.1 = k then (kv.1, v) else kv) else kvs ++ [(k, v)]
theorem valV_pos {p : κ × V} {r : List (κ × V)} {k : κ} (e : p.1 = k) : valV (p :: r) k = some p.2 := by simp [valV, List.find?_cons, e]
theorem valV_neg {p : κ × V} {r : List (κ × V)} {k : κ} (e : ¬ p.1 = k) : valV (p :: r) k = valV r k := by simp [valV, List.find?_cons, e]
theorem valV_any (k : κ) : ∀ kvs : List (κ × V), (kvs.any fun kv => decide (kv.1 = k)) = (valV kvs k).isSome
 | [] => rfl
 | p :: r => by
  rw [List.any_cons]
  by_cases e : p.1 = k
  ·simp only [valV_pos e, decide_eq_true e, Bool.true_or, Option.isSome_some]
  ·rw [valV_neg e, decide_eq_false e, Bool.false_or]; exact valV_any k r
theorem length_putK (kvs : List (κ × V)) (k : κ) (v : V) : (putK kvs k v).length <= kvs.length + 1 := by
 unfold putK
 split
 ·rw [List.length_map]; omega
 ·rw [List.length_append, List.length_cons, List.length_nil]; omega
theorem RelO.getD {o : Option V} {u : Option Value} {d : V} {d' : Value} (r : RelO o u) (rd : RelV d d') : RelV (o.getD d) (u.getD d') := by
 cases o with
 | none => cases u with
  | none => exact rd
  | some _ => exact (show False from r).elim
 | some _ => cases u with
  | none => exact (show False from r).elim
  | some _ => exact r
theorem KV.val {kvs : List (κ × V)} {vs : List (κ × Value)} (r : KV kvs vs) (k : κ) : RelO (valV kvs k) (valueAt vs k) := by
 unfold KV at r
 induction r with
 | nil => exact True.intro
 | @cons p q ps qs h t ih =>
  obtain ⟨h1, h2⟩ := h
  by_cases e : p.1 = k
  ·have e' : q.1 = k := h1.symm.trans e
   have b : valueAt (q :: qs) k = some q.2 := by simp [valueAt, List.find?_cons, e']
   rw [valV_pos e, b]; exact h2
  ·have e' : ¬ q.1 = k := fun z => e (h1.trans z)
   have b : valueAt (q :: qs) k = valueAt qs k := by simp [valueAt, List.find?_cons, e']
   rw [valV_neg e, b]; exact ih
theorem KV.any {kvs : List (κ × V)} {vs : List (κ × Value)} (r : KV kvs vs) (k : κ) : (kvs.any fun kv => decide (kv.1 = k)) = vs.any fun kv => decide (kv.1 = k) := by
 unfold KV at r
 induction r with
 | nil => rfl
 | cons h t ih => rw [List.any_cons, List.any_cons, ih, h.1]
theorem KV.repl {kvs : List (κ × V)} {vs : List (κ × Value)} (r : KV kvs vs) (k : κ) {y : V} {u : Value} (ry : RelV y u) :
  KV (kvs.map fun kv => if kv.1 = k then (kv.1, y) else kv) (vs.map fun kv => if kv.1 = k then (kv.1, u) else kv) := by
 unfold KV at r ⊢
 induction r with
 | nil => exact .nil
 | @cons p q ps qs h t ih =>
  rw [List.map_cons, List.map_cons]
  refine .cons ?_ ih
  obtain ⟨h1, h2⟩ := h
  by_cases e : p.1 = k
  ·rw [if_pos e, if_pos (h1.symm.trans e)]; exact ⟨h1, ry⟩
  ·rw [if_neg e, if_neg (fun z => e (h1.trans z))]; exact ⟨h1, h2⟩
theorem KV.put {kvs : List (κ × V)} {vs : List (κ × Value)} (r : KV kvs vs) (k : κ) {y : V} {u : Value} (ry : RelV y u) : KV (putK kvs k y) (stored vs k u) := by
 unfold putK stored
 rw [r.any k]
 by_cases e : (vs.any fun kv => decide (kv.1 = k)) = true
 ·rw [if_pos e, if_pos e]; exact r.repl k ry
 ·rw [if_neg e, if_neg e]; exact Paired.snoc r ⟨rfl, ry⟩
theorem KV.length {kvs : List (κ × V)} {vs : List (κ × Value)} (r : KV kvs vs) : kvs.length = vs.length := Paired.length r
end
theorem kV_is {P : Program} {w : World} {k : Key} {u : Value} (r : RelV (kV k) u) : (mixKind P w).is k u = true := by
 cases k with
 | inl i => obtain ⟨t, e⟩ := (show ∃ t, u = Value.int i t from r); subst e; exact mixKind_int P w i t
 | inr x => obtain ⟨t, e⟩ := (show ∃ t, u = Value.str x t from r); subst e; exact mixKind_str P w x t
theorem items_are {P : Program} {w : World} : ∀ {ks : List Key} {us : List Value}, Vals (ks.map kV) us -> ItemsAre (mixKind P w) ks us
 | [], _, r => by rw [List.map_nil] at r; cases r; exact .nil
 | k :: ks, _, r => by
  rw [List.map_cons] at r
  cases r with
  | cons h t => exact .cons (kV_is h) (items_are t)
noncomputable abbrev KT (H : Hp) : List (List Key × V) -> List (List Key × Addr × Value) -> Prop := Paired fun p q => p.1 = q.1 /\ H q.2.1 = some (.tup (p.1.map kV)) /\ RelV p.2 q.2.2
theorem KT.val {H : Hp} {kvs : List (List Key × V)} {xs : List (List Key × Addr × Value)} (r : KT H kvs xs) (k : List Key) : RelO (valV kvs k) ((atKey xs k).map (·.2)) := by
 induction r with
 | nil => exact True.intro
 | @cons p q ps qs h t ih =>
  obtain ⟨h1, _, h2⟩ := h
  by_cases e : p.1 = k
  ·have e' : q.1 = k := h1.symm.trans e
   have b : atKey (q :: qs) k = some q.2 := by simp [atKey, List.find?_cons, e']
   rw [valV_pos e, b]; exact h2
  ·have e' : ¬ q.1 = k := fun z => e (h1.trans z)
   have b : atKey (q :: qs) k = atKey qs k := by simp [atKey, List.find?_cons, e']
   rw [valV_neg e, b]; exact ih
section
variable {P : Program} {w : World} {H : Hp} {h : Heap} {a : Addr}
theorem rd_of {u : HO} (ok : HOk P w H h) (e : Rd H a u) : ObjOk P w H h a u := e.ok ok
theorem dk_rd {kvs : List (Key × V)} (ok : HOk P w H h) (e : Rd H a (.dK kvs)) : kvs.length <= sizeLine /\ (a == sysModules) = false /\ ∃ vs, KV kvs vs /\ h.DictOf (mixKind P w) a vs :=
 show ObjOk P w H h a (.dK kvs) from rd_of ok e
theorem dk_of {kvs : List (Key × V)} (ok : HOk P w H h) (e : H a = some (.dK kvs)) : kvs.length <= sizeLine /\ (a == sysModules) = false /\ ∃ vs, KV kvs vs /\ h.DictOf (mixKind P w) a vs := dk_rd ok (.inl e)
theorem key_of {ks : List Key} (ok : HOk P w H h) (e : H a = some (.tup (ks.map kV))) : (tupleKind (mixKind P w)).is h ks a := by
 obtain ⟨_, its, r, p⟩ := (show ObjOk P w H h a (.tup (ks.map kV)) from ok a _ e)
 obtain ⟨o, h1, h2, n, h3⟩ := p.tup
 exact ⟨o, its.toArray, n, h1, h2, h3, by simpa using items_are r⟩
theorem dt_rd {kvs : List (List Key × V)} (ok : HOk P w H h) (e : Rd H a (.dT kvs)) : kvs.length <= sizeLine /\ (a == sysModules) = false /\
  ∃ xs, KT H kvs xs /\ h.DictOfH (tupleKind (mixKind P w)) a xs := by
 obtain ⟨z, y, xs, r, o, es, ep, h1, h2, h3, h4, h5⟩ := (show ObjOk P w H h a (.dT kvs) from rd_of ok e)
 refine ⟨z, y, xs, r, o, es, ep, h1, h2, h3, h4, fun x hx => ?_, h5⟩
 have all : ∀ {l : List (List Key × V)} {m : List (List Key × Addr × Value)}, KT H l m -> ∀ x ∈ m, (tupleKind (mixKind P w)).is h x.1 x.2.1 := by
  intro l m q
  induction q with
  | nil => intro x hx; exact nomatch hx
  | @cons p q ps qs hq t ih =>
   intro x hx
   rcases List.mem_cons.mp hx with e | hx
   ·subst e
    exact key_of ok (by rw [← hq.1]; exact hq.2.1)
   ·exact ih x hx
 exact all r x hx
end
noncomputable def DGet (H : Hp) (a : Addr) (y : V) (r : Option V) : Prop :=
 (∃ kvs k, Rd H a (.dK kvs) /\ y = kV k /\ r = valV kvs k) \/ ∃ kvs k b, Rd H a (.dT kvs) /\ y = .ref b /\ H b = some (.tup (k.map kV)) /\ r = valV kvs k
theorem DGet.k {H : Hp} {a : Addr} {kvs : List (Key × V)} {k : Key} (e : H a = some (.dK kvs)) : DGet H a (kV k) (valV kvs k) := .inl ⟨kvs, k, .inl e, rfl, rfl⟩
section
variable {X : Cx} {pins : List (Addr × Obj)} {σ : St} {H : Hp} {s : Shared} {a : Addr} {y v : V} {u r : Value} {o : Option V} {A : Around} {E : Value -> Shared -> Prop}
theorem Inv.big (I : Inv X pins σ H s) : sysModules < s.heap.objs.size := by
 have h : mainGlobals < s.heap.objs.size := (I.mod.glob.keeps I.bk).lt
 exact Nat.lt_trans (by decide) h
theorem dk_new {P : Program} {w : World} {H' : Hp} {h' : Heap} {kvs : List (Key × V)} {vs : List (Key × Value)} (z : kvs.length <= sizeLine) (hd : (a == sysModules) = false) (rel : KV kvs vs) (dd : h'.DictOf (mixKind P w) a vs) :
  ObjOk P w H' h' a (.dK kvs) := ⟨z, hd, vs, rel, dd⟩
end
section
variable {X : Cx} {pins : List (Addr × Obj)} {σ : St} {H : Hp} {s : Shared} {a : Addr} {y d : V} {u r : Value} {o : Option V} {A : Around} {E : Value -> Shared -> Prop}
theorem d_get1 {Q : Value -> Shared -> Prop} (hu : A.units + 1 < cLine) (I : Inv X pins σ H s) (g : DGet H a y o) (ry : RelV y u) (h : ∀ w' s', Inv X pins σ H s' -> RelV (o.getD .non) w' -> Q w' s') :
  wpAny (model X.prog X.w) A (call (.builtin "dict.get") [.ref a, u]) Q E s := by
 rcases g with ⟨kvs, k, e, ey, l⟩ | ⟨kvs, k, b, e, ey, eb, l⟩
 ·subst ey
  obtain ⟨z, hd, vs, rel, dd⟩ := dk_rd I.hok e
  refine call_meetsIn PySem.F.slot_dict_get dd.typeIs PySem.F.entry_dict_get (PySem.F.args_dict_get_2 _ _) (meets_dict_get (mixKind X.prog X.w) a (kV_is ry) hd) ⟨_, dd.mapOf, h _ _ (I.tok _) ?_⟩
  rw [l]
  exact (rel.val k).getD rfl
 ·subst ey
  cases (show u = Value.ref b from ry)
  obtain ⟨z, hd, xs, rel, dd⟩ := dt_rd I.hok e
  refine call_meetsIn PySem.F.slot_dict_get dd.typeIs PySem.F.entry_dict_get (PySem.F.args_dict_get_2 _ _) (meetsH_dict_get (tupleKind (mixKind X.prog X.w)) a b hd) ⟨tupleKind_room_in1 hu, k, xs, key_of I.hok eb, dd, h _ _ (I.tok _) ?_⟩
  rw [l]
  exact (rel.val k).getD rfl
theorem d_get2 {Q : Value -> Shared -> Prop} (hu : A.units + 1 < cLine) (I : Inv X pins σ H s) (g : DGet H a y o) (ry : RelV y u) (rd : RelV d r) (h : ∀ w' s', Inv X pins σ H s' -> RelV (o.getD d) w' -> Q w' s') :
  wpAny (model X.prog X.w) A (call (.builtin "dict.get") [.ref a, u, r]) Q E s := by
 rcases g with ⟨kvs, k, e, ey, l⟩ | ⟨kvs, k, b, e, ey, eb, l⟩
 ·subst ey
  obtain ⟨z, hd, vs, rel, dd⟩ := dk_rd I.hok e
  refine call_meetsIn PySem.F.slot_dict_get dd.typeIs PySem.F.entry_dict_get (PySem.F.args_dict_get_3 _ _ _) (meets_dict_get_default (mixKind X.prog X.w) a (kV_is ry) hd r) ⟨_, dd.mapOf, h _ _ (I.tok _) ?_⟩
  rw [l]
  exact (rel.val k).getD rd
 ·subst ey
  cases (show u = Value.ref b from ry)
  obtain ⟨z, hd, xs, rel, dd⟩ := dt_rd I.hok e
  refine call_meetsIn PySem.F.slot_dict_get dd.typeIs PySem.F.entry_dict_get (PySem.F.args_dict_get_3 _ _ _) (meetsH_dict_get_default (tupleKind (mixKind X.prog X.w)) a b hd r) ⟨tupleKind_room_in1 hu, k, xs, key_of I.hok eb, dd, h _ _ (I.tok _) ?_⟩
  rw [l]
  exact (rel.val k).getD rd
end
end L2
namespace Att
open PySem PySem.W PySem.Calls PyProof.Rows
theorem ints_of_wellAll {P : Params} {h : Heap} : ∀ (ns : List Int) (vs : List Value), WellAll P h vs (ns.map WData.int) -> IntsAre vs ns := by
 intro ns
 induction ns with
 | nil =>
  intro vs w
  rw [List.map_nil] at w
  cases w
  exact .nil
 | cons n ns ih =>
  intro vs w
  rw [List.map_cons] at w
  cases w with
  | cons a b =>
   cases a
   exact .cons _ _ (ih _ b)
theorem script_of {l : OpenLaw} {n : Nat} (hn : l.most = some n) {P : Params} {h : Heap} {args : List WData} {vals : List Value}
  (hpre : l.row.toRowW.claim.pre args = true) (hwl : WellAll P h vals args) :
  ∃ a vs ns, vals = [Value.ref a] /\ args = [WData.list (ns.map WData.int)] /\ h.get? a = some { cls := .type "list", data := .seq vs.toArray } /\ IntsAre vs ns /\ ns.length <= n := by
 have hsh : WShape.hasAll [] args [.list .int] = true := (pre_splitW hpre).1
 have hc : l.pre.holds [] { args := args } = true := (pre_splitW hpre).2
 obtain ⟨d, r, rfl, h1, h2⟩ := hasAllW_cons hsh
 obtain rfl := hasAllW_nil h2
 obtain ⟨xs, rfl, h3⟩ := hasW_list h1
 obtain ⟨ns, rfl⟩ := items_int h3
 have hlen : ns.length <= n := by
  unfold OpenLaw.pre at hc
  have h4 : (WTm.not (.lt (.lit (.int (n : Int))) (.len (.arg 0)))).holds [] { args := [.list (ns.map .int)] } = true := by
   have h4 := (holds_andW hc).1
   rw [hn] at h4
   exact h4
  have h5 := condW_of h4 (w_not (w_lt w_lit (w_len_list (w_arg rfl))))
  rw [List.length_map] at h5
  refine Nat.le_of_not_lt fun q => ?_
  have q' : (n : Int) < ((ns.length : Nat) : Int) := by omega
  first
   | (rw [decide_eq_true q'] at h5; exact absurd h5 (by decide))
   | (simp at h5; omega)
 cases hwl with
 | cons w1 w2 =>
  cases w2
  cases w1 with
  | list ho hall => exact ⟨_, _, ns, rfl, rfl, ho, ints_of_wellAll ns _ hall, hlen⟩
theorem post_true (l : OpenLaw) (args : List WData) : l.row.toRowW.claim.post args (.bool true) args = true :=
 postW_of (r := l.row.toRowW) (X := (true == true))
  (show WShape.has [] (.bool true) .bool = true by first | rfl | decide | simp [WShape.has, WShape.arms, WShape.armsAll])
  (show (WTm.eq .res (.lit (.bool true))).value [] { args := args, res := some (.bool true), after := args } = some (.bool (true == true)) from w_eq_bool (w_res rfl) w_lit) rfl
theorem attach_call {l : OpenLaw} {n : Nat} {q : Program} {loose : List Str} {XP : (Str -> Option Value) -> Heap -> Prop} {YP : World -> Heap -> Prop} {d : DefRec}
  (hn : l.most = some n) (hdf : d.params.defaults = [])
  (call : ∀ (w : World) (s₀ s₁ : Shared) (mg mb : Str -> Option Value) (fa : Addr) (o : Obj) (pm cd doc : Value) (a : Addr) (vs : List Value) (ns : List Int),
   Ground q loose [] XP w s₀ mg mb s₁.heap -> YP w s₁.heap ->
   s₁.heap.get? fa = some o -> o.data = .func (docDef d.name d.params d.body d.scope pm cd doc) -> s₁.heap.CodeRec cd d.name -> mg d.name = some (.ref fa) ->
   s₁.heap.get? a = some { cls := .type "list", data := .seq vs.toArray } -> IntsAre vs ns -> ns.length <= n -> s₁.gens = #[] ->
   codeAny (model l.prog w) callerA (.call (.ref fa) ⟨[.ref a], []⟩) (fun r s' => r = .ok (.ret (.bool true)) /\ OldK s₁.heap s'.heap /\ s'.os = s₁.os /\ AllBare s'.gens) s₁) :
  WalkO q loose XP YP l.row.toRowW d [] (fun f vs => PySem.call f vs) := by
 intro w s₀ s₁ mg mb G Y fa o pm cd doc dV kV ho hd hcd hD hmg hg args vals as hpre hlay hrd hwl hlo
 obtain rfl : dV = .none := Dflts.none hD hdf
 obtain rfl : kV = .none := Dflts.noKw hD
 obtain ⟨a, vs, ns, rfl, rfl, hobj, hints, hlen⟩ := script_of hn hpre hwl
 refine enter_call (codeAny_mono (call w s₀ s₁ mg mb fa o pm cd doc a vs ns G Y ho (fd_plain hd) hcd hmg hobj hints hlen hg) fun r s' hq => ?_)
 obtain ⟨rfl, h2, h3, h4⟩ := hq
 exact ⟨.inl ⟨.bool true, .bool true, [], rfl, fun _ => rfl, .bool true, post_true l _, fun _ => ⟨List.Pairwise.nil, fun _ hm => (nomatch hm)⟩⟩, h2, h3, h4⟩
end Att
namespace L2
open PySem PySem.Spec PyProof.Rows
theorem vals_ints : ∀ {vs : List Value} {ns : List Int}, IntsAre vs ns -> Vals (ns.map V.int) vs
 | _, _, .nil => .nil
 | _, _, .cons n t h => .cons ⟨t, rfl⟩ (vals_ints h)
noncomputable def Only (H : Hp) : Prop := ∀ b, H b = none \/ ∃ o xs, H b = some (.frz o (.lst xs))
theorem law_call {P : Program} {w : World} {K : PySem.W.Frag} {mg mb : Str -> Option Value} {CX : CXT} {k : Nat} {fa a : Addr} {fd : FuncData} {x : Str} {sp : Sp} {s₁ : Shared} {vs : List Value} {ns : List Int}
  (KX : K.In s₁.heap) (hns : s₁.heap.Ns mainGlobals mg) (hb : s₁.heap.Ns builtinsNs mb) (hbb : ∀ x : Str, x ≠ "__name__" -> mb x = bootBuiltins x) (hlim : s₁.heap.NoLimit) (hg : s₁.gens = #[])
  (ha : s₁.heap.get? a = some { cls := .type "list", data := .seq vs.toArray }) (hi : IntsAre vs ns) (hl : ns.length <= sizeLine) (hr : Room k callerA)
  (F : ∀ base : Heap, K.In base -> base.Ns mainGlobals mg -> FnOk P w K mg base CX k fa fd [x] sp) (hbind : ∀ (s : Shared) (u : Value), BindsTo s fd ⟨[u], []⟩ [(x, u)])
  (hsp : ∀ H : Hp, Only H -> SqL K H a (ns.map V.int) -> sp [.ref a] H (fun v _ => v = .bl true) fun _ _ _ => False)
  (hCX : ∀ H e s', CX [] H s₁ (fun _ _ _ => False) e s' -> False) :
  codeAny (model P w) callerA (.call (.ref fa) ⟨[.ref a], []⟩) (fun r s' => r = .ok (.ret (.bool true)) /\ OldK s₁.heap s'.heap /\ s'.os = s₁.os /\ AllBare s'.gens) s₁ := by
 have rv := vals_ints hi
 have lenV := hi.length
 -- from an abstract heap in which nothing but the script may be tracked
 have core : ∀ H : Hp, Only H -> SqL K H a (ns.map V.int) -> HOk P w H s₁.heap -> (∀ b, H b ≠ none -> b = a) -> (H a ≠ none -> K.lookup a = none) ->
   codeAny (model P w) callerA (.call (.ref fa) ⟨[.ref a], []⟩) (fun r s' => r = .ok (.ret (.bool true)) /\ OldK s₁.heap s'.heap /\ s'.os = s₁.os /\ AllBare s'.gens) s₁ := by
  intro H hO hS hok hA hK
  have base_of : ∀ {b : Addr} {o : Obj}, s₁.heap.get? b = some o -> H b = none -> (hidT s₁.heap H).get? b = some o := fun e n => hidT_get e n
  have noA : ∀ {b : Addr} {o : Obj} {es : Array DictEntry} {ep : Nat}, s₁.heap.get? b = some o -> o.data = .dict es ep -> H b = none := fun {b o es ep} e d => by
   cases q : H b with
   | none => rfl
   | some u =>
    have e' : b = a := hA b (by rw [q]; simp)
    subst e'
    rw [ha] at e; cases e
    have d' : Data.seq vs.toArray _ = Data.dict es ep := d
    cases d'
  have nsK : ∀ {b : Addr} {m : Str -> Option Value}, s₁.heap.Ns b m -> (hidT s₁.heap H).Ns b m := fun {b m} ⟨o, es, ep, e, d, r⟩ => ⟨o, es, ep, base_of e (noA e d), d, r⟩
  have hKb : K.In (hidT s₁.heap H) := fun b o e => base_of (KX b o e) (by
   cases q : H b with
   | none => rfl
   | some u =>
    have e' : b = a := hA b (by rw [q]; simp)
    subst e'
    rw [hK (by rw [q]; simp)] at e; cases e)
  have hM : Mod K mg (hidT s₁.heap H) := ⟨hKb, nsK hns, ⟨mb, nsK hb, hbb⟩, let ⟨mc, h1, h2⟩ := hlim; ⟨mc, nsK h1, h2⟩⟩
  have e0 : Env0 P w K mg (hidT s₁.heap H) callerA [] s₁ H := ⟨rfl, hM, fun b o e => of_hidT e, Nat.le_of_eq (hidT_size _ _), trivial, fun b hb => absurd (show b ∈ ([] : List Addr) from hb) (by simp), hok, .of_eq hg⟩
  refine codeAny_mono ((F _ hKb (nsK hns)).run callerA [] s₁ H ⟨[.ref a], []⟩ [.ref a] [.ref a] _ _ hr e0 (hbind s₁ (.ref a)) (.cons rfl .nil) (hsp H hO hS)) fun r s' h => ?_
  cases r with
  | error e => exact (hCX H e s' h).elim
  | ok fl =>
   cases fl with
   | next => exact False.elim h
   | brk => exact False.elim h
   | cont => exact False.elim h
   | ret u =>
    obtain ⟨v, H', os, bare, un, hok', r', q⟩ := h
    have q' : v = .bl true := q
    subst q'
    obtain rfl : u = Value.bool true := r'
    refine ⟨rfl, OldK.of_keep fun b o e => ?_, os, bare⟩
    cases q : H b with
    | none => exact un.keep b o e q (by intro z; exact absurd (show b ∈ ([] : List Addr) from z) (by simp)) (by simp)
    | some u =>
     rcases hO b with z | ⟨ob, xs, z⟩
     ·rw [q] at z; cases z
     ·have z2 := un.frzs b ob _ z
      obtain ⟨e1, _⟩ := hok b _ z
      obtain ⟨e2, _⟩ := hok' b _ z2
      rw [e] at e1; cases e1
      exact e2
 cases hk : K.lookup a with
 | some o =>
  -- the script is one of the module's own objects
  have e := KX a o hk
  rw [ha] at e
  cases e
  refine core (fun _ => none) (fun _ => .inl rfl) (.inr ⟨_, vs.toArray, _, hk, rfl, rfl, rfl, by rw [List.size_toArray, lenV]; exact hl, by simpa using rv⟩) (fun b u z => by have z' : (none : Option HO) = some u := z; cases z') (fun b z => absurd rfl z) fun z => absurd rfl z
 | none =>
  refine core (fun b => if b = a then some (.frz { cls := .type "list", data := .seq vs.toArray } (.lst (ns.map V.int))) else none) (fun b => ?_) (.inl (.inr ⟨{ cls := .type "list", data := .seq vs.toArray }, if_pos rfl⟩)) (fun b u z => ?_) (fun b z => ?_) fun _ => hk
  ·by_cases hb : b = a
   ·exact .inr ⟨_, _, if_pos hb⟩
   ·exact .inl (if_neg hb)
  ·by_cases hb : b = a
   ·have z' := (if_pos hb).symm.trans z
    cases z'
    subst hb
    exact ⟨ha, by rw [List.length_map]; exact hl, vs, _, rv, ha⟩
   ·have z' := (if_neg hb).symm.trans z
    cases z'
  ·by_cases hb : b = a
   ·exact hb
   ·exact absurd (if_neg hb) z
end L2
namespace L2
open PySem PySem.Spec PyProof.Rows
theorem walk_of {l : PySem.W.OpenLaw} {n k : Nat} {q : Program} {loose : List Str} {XP : (Str -> Option Value) -> Heap -> Prop} {YP : World -> Heap -> Prop} {d : DefRec} {K : Params -> PySem.W.Frag} {CX : World -> CXT} {sp : World -> Sp} {x : Str}
  (hn : l.most = some n) (hn2 : n <= sizeLine) (hdf : d.params.defaults = []) (hr : Room k callerA)
  (hY : ∀ (w : World) (h : Heap), YP w h -> (K w.params).In h)
  (F : ∀ (w : World) (mg : Str -> Option Value) (fa : Addr) (h : Heap), (K w.params).In h -> h.Ns mainGlobals mg -> mg d.name = some (.ref fa) ->
   ∃ fd : FuncData, (∀ (s : Shared) (u : Value), BindsTo s fd ⟨[u], []⟩ [(x, u)]) /\
    ∀ base : Heap, (K w.params).In base -> base.Ns mainGlobals mg -> FnOk l.prog w (K w.params) mg base (CX w) k fa fd [x] (sp w))
  (hsp : ∀ (w : World) (H : Hp) (a : Addr) (ns : List Int), ns.length <= n -> Only H -> SqL (K w.params) H a (ns.map V.int) -> sp w [.ref a] H (fun v _ => v = .bl true) fun _ _ _ => False)
  (hCX : ∀ (w : World) (H : Hp) (s : Shared) (e : Value) (s' : Shared), CX w [] H s (fun _ _ _ => False) e s' -> False) :
  PySem.W.WalkO q loose XP YP l.row.toRowW d [] (fun f vs => PySem.call f vs) := by
 refine Att.attach_call hn hdf fun w s₀ s₁ mg mb fa o pm cd doc a vs ns G Y ho hd hcd hmg hobj hints hlen hg => ?_
 have KX := hY w _ Y
 obtain ⟨fd, hb, hF⟩ := F w mg fa _ KX G.T.g hmg
 exact law_call KX G.T.g G.T.b G.T.builtins G.T.nolimit hg hobj hints (Nat.le_trans hlen hn2) hr hF hb (fun H hO hS => hsp w H a ns hlen hO hS) fun H e s' => hCX w H s₁ e s'
end L2
namespace L2
open PySem PySem.Spec PyProof.Rows
noncomputable def defArgs (s : Stmt) : Arguments := match s with
 | .FunctionDef _ a _ _ _ _ _ _ _ _ => a
 | _ => { posonlyargs := [], args := [], vararg := none, kwonlyargs := [], kw_defaults := [], kwarg := none, defaults := [] }
noncomputable def defBody (s : Stmt) : List Stmt := match s with
 | .FunctionDef _ _ b _ _ _ _ _ _ _ => b
 | _ => []
noncomputable def defScope (s : Stmt) : Scope := match s with
 | .FunctionDef _ _ _ _ _ _ sc _ _ _ => sc
 | _ => { kind := .function, names := [], isGenerator := false, isCoroutine := false }
noncomputable abbrev CX0 : CXT := fun _ _ _ _ _ _ => False
noncomputable abbrev E0 : XK := fun _ _ _ => False
theorem pass0 {X : Cx} : Passes CX0 X E0 := fun _ _ _ _ _ _ _ h => h.elim
structure Fun (K : PySem.W.Frag) (x qual : Str) (st : Stmt) (f : Addr) (fd : FuncData) : Prop where
 ex : ∃ (oc : Value) (od : Option Addr) (kV doc pm : Value) (an : Option Addr) (cdv ct : Value) (osl : Array (Option Value)),
  fd = PySem.W.fnOf x qual (defArgs st) (defBody st) (defScope st) .none kV doc pm an cdv ct /\ K.lookup f = some ⟨oc, od, .func fd, osl⟩ /\ PySem.W.codeIn K cdv qual = true
 kp : PySem.W.keepIn K (.ref f) = true
section
variable {P : Program} {w : World} {K : PySem.W.Frag} {mg : Str -> Option Value} {base : Heap}
theorem Fun.ok {x qual : Str} {st : Stmt} {f : Addr} {fd : FuncData} {N ps : List Str} {k : Nat} {sp : Sp} (F : Fun K x qual st f fd) (S : FnScope N ps (defScope st)) (len : ∀ vs H Q E, sp vs H Q E -> vs.length = ps.length)
  (hbody : ∀ (cdv : Value) (A : Around) (outer : List Env) (s : Shared) (H : Hp) (vs : List V) (Q : VK) (E : XK), Room k (A.deeper (envOfC qual (defScope st) s.heap.objs.size f cdv)) -> sp vs H Q E ->
   ∃ t, PSs (cxOf CX0 P w K mg base N qual (defScope st) f cdv A outer s H E).nox (defBody st) t /\ t { nx := fun _ H' => Q .non H', rt := Q } (start N vs) H) : FnOk P w K mg base CX0 (k + 1) f fd ps sp := by
 obtain ⟨oc, od, kV, doc, pm, an, cdv, ct, osl, rfl, lk, hcd⟩ := F.ex
 refine fn_of lk hcd S len fun A outer s H vs Q E hr hsp => ?_
 obtain ⟨t, h, q⟩ := hbody cdv A outer s H vs Q E hr hsp
 exact ⟨t, h.nox, q⟩
theorem Fun.binds {x qual : Str} {st : Stmt} {f : Addr} {fd : FuncData} {ps : List Str} (F : Fun K x qual st f fd)
  (h : ∀ (kV doc pm : Value) (an : Option Addr) (cdv ct : Value) (us : List Value), us.length = ps.length -> bindArgs (PySem.W.fnOf x qual (defArgs st) (defBody st) (defScope st) .none kV doc pm an cdv ct) ⟨us, []⟩ = pure (ps.zip us)) : Binds K fd ps [] := by
 obtain ⟨oc, od, kV, doc, pm, an, cdv, ct, osl, rfl, lk, hcd⟩ := F.ex
 exact .all (h kV doc pm an cdv ct)
theorem fun_mk {x qual : Str} {st : Stmt} {f : Addr} {oc : Value} {od an : Option Addr} {osl : Array (Option Value)} {kV doc pm cdv ct : Value} (l : K.lookup f = some ⟨oc, od, .func (PySem.W.fnOf x qual (defArgs st) (defBody st) (defScope st) .none kV doc pm an cdv ct), osl⟩)
  (c : PySem.W.codeIn K cdv qual = true) (k : PySem.W.keepIn K (.ref f) = true) : Fun K x qual st f (PySem.W.fnOf x qual (defArgs st) (defBody st) (defScope st) .none kV doc pm an cdv ct) := ⟨⟨oc, od, kV, doc, pm, an, cdv, ct, osl, rfl, l, c⟩, k⟩
end
theorem small1000 {n : Nat} (h : n <= 1000) : n < sizeLine := Nat.lt_of_le_of_lt h (by decide)
section
variable {X : Cx}
end
noncomputable def Same (H H' : Hp) : Prop := ∀ b o, H b = some o -> H' b = some o
theorem Same.seq {K : PySem.W.Frag} {H H' : Hp} {a : Addr} {xs : List V} (e : Same H H') (h : SqL K H a xs) : SqL K H' a xs := by
 rcases h with (h | ⟨o, h⟩) | h
 ·exact .inl (.inl (e _ _ h))
 ·exact .inl (.inr ⟨o, e _ _ h⟩)
 ·exact .inr h
end L2
namespace L2
open PySem PySem.Spec PyProof.Rows
noncomputable def clOf (env : Env) : List (Str × NameKind) -> List (Str × Addr) -> List (Str × Addr)
 | [], cs => cs
 | (n, k) :: r, cs => clOf env r (if k == .free then (match env.cells.lookup n with | some c => (n, c) :: cs | none => cs) else cs)
theorem clOf_sub {env : Env} : ∀ {l : List (Str × NameKind)} {cs : List (Str × Addr)}, (∀ n c, (n, c) ∈ cs -> env.cells.lookup n = some c) -> ∀ n c, (n, c) ∈ clOf env l cs -> env.cells.lookup n = some c
 | [], cs, h, n, c, m => h n c m
 | (n', k) :: r, cs, h, n, c, m => by
  unfold clOf at m
  refine clOf_sub (l := r) (fun a b q => ?_) n c m
  split at q
  ·split at q
   ·rename_i c' hc
    rcases List.mem_cons.mp q with z | z
    ·cases z; exact hc
    ·exact h a b z
   ·exact h a b q
  ·exact h a b q
theorem clOf_keep {env : Env} : ∀ {l : List (Str × NameKind)} {cs : List (Str × Addr)} {p}, p ∈ cs -> p ∈ clOf env l cs
 | [], _, _, h => h
 | (n, k) :: r, cs, p, h => by
  unfold clOf
  refine clOf_keep (l := r) ?_
  split
  ·split
   ·exact List.mem_cons_of_mem _ h
   ·exact h
  ·exact h
theorem clOf_has {env : Env} : ∀ {l : List (Str × NameKind)} {cs : List (Str × Addr)} {n : Str} {c : Addr}, (n, NameKind.free) ∈ l -> env.cells.lookup n = some c -> (n, c) ∈ clOf env l cs
 | [], _, _, _, h, _ => by cases h
 | (n', k) :: r, cs, n, c, h, e => by
  unfold clOf
  rcases List.mem_cons.mp h with z | z
  ·cases z
   refine clOf_keep ?_
   simp [e]
  ·exact clOf_has z e
theorem closureFor_cl {scope : Scope} {env : Env} (h : ∀ n, (n, NameKind.free) ∈ scope.names -> ∃ c, env.cells.lookup n = some c) : closureFor scope env = pure (clOf env scope.names []) := by
 have all : ∀ (l : List (Str × NameKind)) (cs : List (Str × Addr)), (∀ n, (n, NameKind.free) ∈ l -> ∃ c, env.cells.lookup n = some c) ->
   (forIn l cs (fun (x : Str × NameKind) (r : List (Str × Addr)) => (match x with | (name, kind) => if (kind == NameKind.free) = true then (do let a ← cellOf env name; pure (ForInStep.yield ((name, a) :: r))) else pure (ForInStep.yield r) : Sem (ForInStep (List (Str × Addr)))))) = (pure (clOf env l cs) : Sem (List (Str × Addr))) := by
  intro l
  induction l with
  | nil => intro cs _; rfl
  | cons p r ih =>
   intro cs hl
   obtain ⟨n, k⟩ := p
   have hr : ∀ n, (n, NameKind.free) ∈ r -> ∃ c, env.cells.lookup n = some c := fun n m => hl n (List.mem_cons_of_mem _ m)
   rw [List.forIn_cons]
   unfold clOf
   by_cases hk : k = .free
   ·subst hk
    obtain ⟨c, hc⟩ := hl n List.mem_cons_self
    have e : cellOf env n = pure c := by unfold cellOf; rw [hc]
    simp only [beq_self_eq_true, if_true, e, hc]
    exact ih _ hr
   ·have hb : (k == NameKind.free) = false := by simpa using hk
    simp only [hb, Bool.false_eq_true, if_false]; exact ih _ hr
 unfold closureFor
 exact (congrArg (fun (z : Sem (List (Str × Addr))) => z >>= fun r => pure r) (all scope.names [] h)).trans rfl
noncomputable def cxLc (X : Cx) (own caps : List Str) (scope : Scope) (C : Addr) (fp : List Addr) (s : Shared) (H : Hp) : Cx where
 prog := X.prog
 w := X.w
 K := X.K
 mg := X.mg
 base := X.base
 A := X.A
 N := own ++ caps
 s₀ := s
 H₀ := H
 env := compEnvC scope (clOf X.env scope.names []) C X.env
 outer := X.stack
 stack := X.stack
 ex := fp
 fn := fun _ => false
 calm := X.calm
 pn := []
 xe := fun _ _ => False
noncomputable def CapOk (X : Cx) (scope : Scope) (y : Str) (j : Nat) : Prop := X.N[j]? = some y /\ Vis X.env.scope y /\ (X.env.kindOf y == some .local) = false /\ ((relabel scope X.env).names.lookup y == some .cell || (relabel scope X.env).names.lookup y == some .free) = true
noncomputable def Caps (X : Cx) (scope : Scope) : List Str -> List Nat -> Prop
 | [], [] => True
 | y :: ys, j :: js => CapOk X scope y j /\ Caps X scope ys js
 | _, _ => False
noncomputable def capV (σ : St) (js : List Nat) : St := js.map fun j => (σ[j]?).join
theorem Caps.at {X : Cx} {scope : Scope} {σ : St} : ∀ {ys : List Str} {js : List Nat} {i : Nat} {y : Str} {v : V}, Caps X scope ys js -> ys[i]? = some y -> (capV σ js)[i]? = some (some v) -> ∃ j, CapOk X scope y j /\ σ[j]? = some (some v)
 | [], [], i, y, v, _, h, _ => by simp at h
 | a :: ys, j :: js, 0, y, v, c, h, e => by
  simp at h; subst h
  refine ⟨j, c.1, ?_⟩
  simp [capV] at e
  cases q : σ[j]? with
  | none =>
   rw [q] at e
   cases e
  | some o =>
   rw [q] at e
   simp at e
   rw [e]
 | a :: ys, j :: js, i + 1, y, v, c, h, e => Caps.at (i := i) c.2 (by simpa using h) (by simpa [capV] using e)
 | [], _ :: _, _, _, _, c, _, _ => c.elim
 | _ :: _, [], _, _, _, c, _, _ => c.elim
theorem Caps.len {X : Cx} {scope : Scope} {σ : St} : ∀ {ys : List Str} {js : List Nat}, Caps X scope ys js -> (capV σ js).length = ys.length
 | [], [], _ => rfl
 | a :: ys, j :: js, c => by simp only [capV, List.map_cons, List.length_cons]; exact congrArg (· + 1) (Caps.len (σ := σ) c.2)
 | [], _ :: _, c => c.elim
 | _ :: _, [], c => c.elim
theorem relabel_free {env : Env} : ∀ {names : List (Str × NameKind)} {x : Str}, (∀ p ∈ names, p.2 ≠ .cell) ->
  ((names.map fun (n, k) => if (k == NameKind.free && env.scope.kind == .function && env.kindOf n == some .cell) then (n, NameKind.cell) else (n, k)).lookup x = some .cell \/
    (names.map fun (n, k) => if (k == NameKind.free && env.scope.kind == .function && env.kindOf n == some .cell) then (n, NameKind.cell) else (n, k)).lookup x = some .free) -> (x, NameKind.free) ∈ names
 | [], _, _, h => by simp at h
 | (n, k) :: r, x, hc, h => by
  have hr : ∀ p ∈ r, p.2 ≠ .cell := fun p hp => hc p (List.mem_cons_of_mem _ hp)
  have hk : k ≠ .cell := hc (n, k) List.mem_cons_self
  have step : ∀ (b : Bool), (List.lookup x ((if b = true then (n, NameKind.cell) else (n, k)) :: r.map fun (n, k) => if (k == NameKind.free && env.scope.kind == .function && env.kindOf n == some .cell) then (n, NameKind.cell) else (n, k)) = some .cell \/
     List.lookup x ((if b = true then (n, NameKind.cell) else (n, k)) :: r.map fun (n, k) => if (k == NameKind.free && env.scope.kind == .function && env.kindOf n == some .cell) then (n, NameKind.cell) else (n, k)) = some .free) -> (b = true -> k = .free) -> (x, NameKind.free) ∈ (n, k) :: r := by
   intro b q hb
   cases hx : x == n with
   | true =>
    have e : x = n := by simpa using hx
    subst e
    cases b with
    | true => rw [hb rfl]; exact List.mem_cons_self
    | false =>
     simp [List.lookup_cons] at q
     rcases q with q | q
     ·exact absurd q hk
     ·rw [q]; exact List.mem_cons_self
   | false =>
    refine List.mem_cons_of_mem _ (relabel_free (env := env) hr ?_)
    cases b <;> simpa [List.lookup_cons, hx] using q
  exact step _ h fun q => by simp at q; exact q.1.1
noncomputable def PIfs (X : Cx) (ifs : List Expr) (t : TT) : Prop :=
 ∀ (pins : List (Addr × Obj)) (s : Shared) (σ : St) (H : Hp) (Q : Bool -> Hp -> Prop), Inv X pins σ H s -> t σ H Q ->
  wpAny (model X.prog X.w) X.A (forIn ifs true fun c r => if r = true then do let ok ← isTrue c X.env (eval c X.env); pure (ForInStep.yield ok) else pure (ForInStep.yield r)) (TP X pins σ Q) X.xe s
noncomputable def tYes : TT := fun _ H Q => Q true H
theorem pifs_nil {X : Cx} : PIfs X [] tYes := fun _ _ _ H _ I h => wpAny_tests_nil ⟨H, I, h⟩
theorem pifs_one {X : Cx} {c : Expr} {t : TT} (h : PT X c t) : PIfs X [c] t := fun pins s σ H Q I q => wpAny_tests_one (h pins s σ H Q I q)
noncomputable abbrev Wn (P : Program) (w : World) (A : Around) {α : Type} (m : Sem α) (Q : α -> Shared -> Prop) (s : Shared) : Prop := wpAny (model P w) A m Q (fun _ _ => False) s
noncomputable abbrev ifsRun (env : Env) (l : List Expr) : Sem Bool := forIn l true fun c r => if r = true then do let b ← isTrue c env (eval c env); pure (ForInStep.yield b) else pure (ForInStep.yield r)
noncomputable def LcTurn (P : Program) (w : World) (A : Around) (it acc : Value) (tg elt : Expr) (l : List Expr) (env : Env) (fin : Shared -> Prop) (again : Shared -> Prop) (s : Shared) : Prop :=
 Wn P w A (pyNext it) (fun r a => match r with
  | none => fin a
  | some v => Wn P w A (letOwnedTupleGo tg it v) (fun _ b => Wn P w A (assign tg env v) (fun _ c => Wn P w A (ifsRun env l) (fun ok d =>
    if ok = true then Wn P w A (eval elt env) (fun x e => Wn P w A (call (.builtin "list.append") [acc, x]) (fun _ g => again g) e) d else again d) c) b) a) s
theorem lc_loop {P : Program} {w : World} {A : Around} {R : Result -> Shared -> Prop} {s : Shared} {elt tg iter : Expr} {l : List Expr} {sc : Scope} {pos : Pos} {it acc : Value} {env : Env} (J : Nat -> Shared -> Prop)
  (turn : ∀ n s, J n s -> LcTurn P w A it acc tg elt l env (R (.ok .next)) (fun z => ∃ m, m < n /\ J m z) s) (n : Nat) (h : J n s) : codeAny (model P w) A (.compLoop (.ListComp elt [⟨tg, iter, l, 0⟩] sc pos) 0 it acc env) R s := by
 refine codeAny_loop rfl J (fun k z hz => ?_) n h
 have one := turn k z hz
 show wpAny _ A (Sem.onRaise (compTurn (.ListComp elt [⟨tg, iter, l, 0⟩] sc pos) 0 it acc env) fun x => do noteFrame x env; theTreesLotGoes x) _ _ z
 refine wpAny_noted ?_
 rw [compTurn_list]
 refine wpAny_bind (wpAny_standAt (wpAny_bind (wpAny_mono one (fun r a ha => ?_) fun _ _ f => f.elim)))
 cases r with
 | none => exact wpAny_pure ha
 | some v =>
  refine wpAny_bind (wpAny_mono ha (fun _ b hb => wpAny_bind (wpAny_mono hb (fun _ c hc => wpAny_bind (wpAny_mono hc (fun ok d hd => ?_) fun _ _ f => f.elim)) fun _ _ f => f.elim)) fun _ _ f => f.elim)
  cases ok with
  | false =>
   have q : ∃ m, m < k /\ J m d := hd
   exact wpAny_pure ⟨rfl, q⟩
  | true =>
   have q : Wn P w A (eval elt env) (fun x e => Wn P w A (call (.builtin "list.append") [acc, x]) (fun _ g => ∃ m, m < k /\ J m g) e) d := hd
   exact wpAny_bind (wpAny_bind (wpAny_mono q (fun x e he => wpAny_bind (wpAny_mono he (fun _ g hg => wpAny_pure (wpAny_pure ⟨rfl, hg⟩)) fun _ _ f => f.elim)) fun _ _ f => f.elim))
noncomputable def tLcB (g : TG) (tt : TT) (te : TE) (k : Nat) (cap : St) (J : It) (H1 : Hp) (Q : VK) : Prop :=
 ∀ D, H1 D = none -> ∃ W : Nat -> Nat -> List V -> Hp -> Prop, (∃ m, W 0 m [] (upd H1 D (.lst []))) /\ ∀ i m ys H, H D = some (.lst ys) -> W i m ys H ->
  (J.stop i H /\ Q (.ref D) H) \/ (J.go i H /\ ∀ x H', J.yld i H x H' -> ∀ vs : St, vs.length = k -> g x (vs ++ cap) H' fun σ2 H2 => (∃ vs' : St, vs'.length = k /\ σ2 = vs' ++ cap) /\ tt σ2 H2 fun b H3 =>
   if b = true then te σ2 H3 fun v H4 => H4 D = some (.lst ys) /\ ys.length < sizeLine /\ ∃ m', m' < m /\ W (i + 1) m' (ys ++ [v]) (upd H4 D (.lst (ys ++ [v]))) else H3 D = some (.lst ys) /\ ∃ m', m' < m /\ W (i + 1) m' ys H3)
noncomputable def tLc (js : List Nat) (k : Nat) (wi : TI) (g : TG) (tt : TT) (te : TE) : TE := fun σ H Q => wi σ H fun J H1 => tLcB g tt te k (capV σ js) J H1 Q
section
variable {X : Cx} {own caps : List Str} {js : List Nat} {scope : Scope} {tg iter elt : Expr} {ifs : List Expr} {wi : TI} {g : TG} {tt : TT} {te : TE} {pos : Pos}
theorem lc_run {pins : List (Addr × Obj)} {σ : St} {H2 : Hp} {s2 : Shared} {it : Addr} {fp : List Addr} {tn : Nat -> Heap -> Prop} {J : It} {Q : VK} {post : Value -> Addr -> Result -> Shared -> Prop} {E : Value -> Shared -> Prop}
  (hcalm : X.calm = true) (hkind : scope.kind = .function) (hcell : (scope.names.any fun p => p.2 == .cell) = false) (hk : (scope.names.all fun p => !(p.2 == .free) || (X.env.kindOf p.1 == some .cell || X.env.kindOf p.1 == some .free)) = true)
  (hcap : Caps X scope caps js) (hg : ∀ C fp s H, PG (cxLc X own caps scope C fp s H) tg g) (hi : ∀ C fp s H, PIfs (cxLc X own caps scope C fp s H) ifs tt) (he : ∀ C fp s H, PE (cxLc X own caps scope C fp s H) elt te)
  (I2 : Inv X pins σ H2 s2) (T : Turn X.prog X.w X.K tg J fp it tn) (st2 : tn 0 s2.heap) (f2 : ∀ b ∈ fp, FpOk X pins H2 b) (hw : tLcB g tt te own.length (capV σ js) J H2 Q)
  (hpost : ∀ D C s' m H', s'.heap.Ns C m -> s2.heap.objs.size <= C -> FpOk X pins H' C -> Inv X pins σ H' s' -> Q (.ref D) H' -> post (.ref D) C (.ok .next) s') :
  wpAny (model X.prog X.w) X.A (newList []) (fun acc s₃ => wpAny (model X.prog X.w) X.A (newFunctionEnv scope X.env.globals (clOf X.env scope.names []) [] X.env.qual none .none (some X.env)) (fun cenv s₄ =>
   codeAny (model X.prog X.w) X.A (.compStart (.ListComp elt [⟨tg, iter, ifs, 0⟩] scope pos) 0 (.ref it) acc { cenv with scope := relabel scope X.env }) (post acc cenv.locals) s₄) E s₃) E s2 := by
 have hcell' : ∀ y ∈ scope.names, y.2 ≠ .cell := fun y hy e => by
  have := (List.any_eq_false.mp hcell) y hy
  simp [e] at this
 have hfr : ∀ n, (n, NameKind.free) ∈ scope.names -> X.env.kindOf n = some .cell \/ X.env.kindOf n = some .free := fun n hn => by
  have := (List.all_eq_true.mp hk) _ hn
  simpa using this
 refine wpAny_newObj_type (wpAny_newFunctionEnv hcell' (by intro y hy; simp at hy) (fun h₁ hns₁ hsb₁ => ?_) hkind)
 dsimp only at hns₁ hsb₁ ⊢
 generalize hHp : s2.heap.push { cls := .type "list", dict := none, data := .seq ([] : List Value).toArray } = G2 at hns₁ hsb₁ ⊢
 have hC : G2.objs.size = s2.heap.objs.size + 1 := by rw [← hHp, Heap.size_push]
 obtain ⟨D, hDe⟩ : ∃ D : Nat, s2.heap.objs.size = D := ⟨_, rfl⟩
 obtain ⟨C, hCe⟩ : ∃ C : Nat, G2.objs.size = C := ⟨_, rfl⟩
 rw [hCe] at hns₁ hsb₁
 rw [hDe, hCe] at hC
 show codeAny _ _ (.compStart _ 0 (.ref it) (.ref s2.heap.objs.size) (compEnvC scope (clOf X.env scope.names []) G2.objs.size X.env)) (post (.ref s2.heap.objs.size) G2.objs.size) _
 rw [hDe, hCe]
 have hDC : D ≠ C := by omega
 have hDCl : D < C := by omega
 have old : ∀ b o, s2.heap.get? b = some o -> h₁.get? b = some o := fun b o e => by
  have hlt : b < D := hDe ▸ Heap.lt_size e
  exact hsb₁.extBut b o (Nat.ne_of_lt (Nat.lt_trans hlt hDCl)) (Heap.get?_push_of_some _ (hHp ▸ Heap.get?_push_of_some _ e))
 have hD2 : H2 D = none := I2.hok.fresh (Nat.le_of_eq hDe)
 have hC2 : H2 C = none := I2.hok.fresh (by rw [hDe]; omega)
 have accD : h₁.get? D = some { cls := .type "list", data := .seq ([] : List Value).toArray } := hsb₁.extBut _ _ hDC (Heap.get?_push_of_some _ (hHp ▸ hDe ▸ Heap.get?_push_size _ rfl))
 obtain ⟨W, ⟨m0, w0⟩, turn⟩ := hw D hD2
 -- the block's own state
 have fpn : ∀ b ∈ fp, H2 b = none := fun b hb => (f2 b hb).1
 have fplt : ∀ b ∈ fp, b < D := fun b hb => by obtain ⟨o, e, _⟩ := T.obj _ _ st2 b hb; exact hDe ▸ Heap.lt_size e
 have clsub : ∀ n c, (n, c) ∈ clOf X.env scope.names [] -> X.env.cells.lookup n = some c := clOf_sub (by intro _ _ z; cases z)
 have cllook : ∀ n c, (clOf X.env scope.names []).lookup n = some c -> X.env.cells.lookup n = some c := fun n c e => clsub n c (PySem.mem_of_lookup e)
 have clhas : ∀ n, (n, NameKind.free) ∈ scope.names -> ∃ c, (clOf X.env scope.names []).lookup n = some c /\ X.env.cells.lookup n = some c := fun n hn => by
  obtain ⟨c, e⟩ := I2.ok.has n (hfr n hn)
  have m := clOf_has (cs := []) hn e
  cases q : (clOf X.env scope.names []).lookup n with
  | none =>
   have := List.lookup_eq_none_iff.mp q _ m
   simp at this
  | some c' => exact ⟨c', rfl, cllook n c' q⟩
 have clt : ∀ x c, (clOf X.env scope.names []).lookup x = some c -> c < D := fun x c e => by
  obtain ⟨v, z⟩ := I2.cell x c (cllook x c e)
  exact hDe ▸ z.lt
 have ok' : (cxLc X own caps scope C fp s2 H2).Ok := by
  refine ⟨I2.ok.mod, hkind, I2.ok.glob, I2.ok.blt, ?_, fun x y c e1 e2 => I2.ok.inj x y c (cllook x c e1) (cllook y c e2), fun x hx => ?_, fun x c z => (by cases z), I2.ok.hd, I2.ok.frames, .inl rfl, fun b hb => ⟨?_, fun x c e => ?_⟩, I2.bs, Nat.le_trans I2.ok.bsz I2.sz, fun b o e hb => ?_, fun b hb hs => ?_, I2.stack, I2.stkFree⟩
  ·show s2.heap.objs.size <= C
   rw [hDe]; omega
  ·have hx' : (relabel scope X.env).names.lookup x = some .cell \/ (relabel scope X.env).names.lookup x = some .free := hx
   obtain ⟨c, e, _⟩ := clhas x (relabel_free hcell' hx')
   exact ⟨c, e⟩
  ·exact Nat.ne_of_lt (Nat.lt_trans (fplt b hb) hDCl)
  ·exact (f2 b hb).2.2.2.2.1 x c (cllook x c e)
  ·rcases (f2 b hb).2.2.2.1 with z | z
   ·exact I2.ok.noex b o e z
   ·exact absurd (Nat.lt_of_lt_of_le (Heap.lt_size (I2.ok.bs b o e).1) z) (Nat.lt_irrefl _)
  ·rcases List.mem_cons.mp (I2.stkSub b hs) with z | z
   ·exact (f2 b hb).2.1 z
   ·exact (f2 b hb).2.2.1 z
 have I4 : Inv (cxLc X own caps scope C fp s2 H2) [] (List.replicate own.length none ++ capV σ js) (upd H2 D (.lst [])) { s2 with heap := h₁, toks := s2.toks + ([] : List (Str × Value)).length } := by
  refine ⟨ok', rfl, I2.bare, Un.laid old (Nat.le_of_eq hDe) hD2, ⟨_, hns₁, fun i x v e1 e2 e3 => ?_⟩, fun x c e => ?_, ?_, fun x c e => ?_, fun p hp => absurd (show p ∈ ([] : List (Addr × Obj)) from hp) (by simp), ?_, ?_⟩
  ·have e1 : (own ++ caps)[i]? = some x := e1
   by_cases hio : i < own.length
   ·rw [List.getElem?_append_left (by simpa using hio), List.getElem?_replicate] at e2
    split at e2 <;> cases e2
   ·have hle : own.length <= i := Nat.le_of_not_lt hio
    rw [List.getElem?_append_right hle] at e1
    rw [List.getElem?_append_right (by simpa using hle)] at e2
    obtain ⟨j, c, e⟩ := Caps.at (σ := σ) hcap e1 (by simpa using e2)
    obtain ⟨c1, c2, c3, c4⟩ := c
    obtain ⟨m, hn, hl⟩ := I2.loc
    obtain ⟨u, r, lk⟩ := hl j x v c1 e c2
    refine ⟨u, r, .inr ⟨?_, ?_⟩⟩
    ·have c4' : (relabel scope X.env).names.lookup x = some .cell \/ (relabel scope X.env).names.lookup x = some .free := by simpa using c4
     exact c4'
    ·have c4' : (relabel scope X.env).names.lookup x = some .cell \/ (relabel scope X.env).names.lookup x = some .free := by simpa using c4
     obtain ⟨c', q1, q2⟩ := clhas x (relabel_free hcell' c4')
     rcases lk with ⟨k1, _⟩ | ⟨_, c'', k2, k3⟩
     ·rw [k1] at c3; simp at c3
     ·rw [q2] at k2; cases k2
      obtain ⟨oc, hoc, hod⟩ := k3
      exact ⟨c', q1, oc, old _ _ hoc, hod⟩
  ·obtain ⟨v, oc, hoc, hod⟩ := I2.cell x c (cllook x c e)
   exact ⟨v, oc, old _ _ hoc, hod⟩
  ·show upd H2 D (.lst []) C = none
   rw [upd_ne (Ne.symm hDC)]; exact hC2
  ·rw [upd_ne (Nat.ne_of_lt (clt x c e))]; exact I2.freeC x c (cllook x c e)
  ·exact I2.hok.laid old (Nat.le_of_eq hDe) ⟨Nat.zero_le _, [], 0, .nil, accD⟩
  ·show (List.replicate own.length none ++ capV σ js).length = (own ++ caps).length
   rw [List.length_append, List.length_append, List.length_replicate, hcap.len]
 have stat : ∀ {H' : Hp}, (∀ b ∈ fp, H' b = none) -> ∀ b ∈ fp, FpOk (cxLc X own caps scope C fp s2 H2) [] H' b := fun hn b hb =>
  ⟨hn b hb, (ok'.exf b hb).1, ok'.exfs b hb, .inl hb, (ok'.exf b hb).2, fun p hp => absurd (show p ∈ ([] : List (Addr × Obj)) from hp) (by simp)⟩
 have loop : ∀ s₃ : Shared, s₃ = { s2 with heap := h₁, toks := s2.toks + ([] : List (Str × Value)).length } ->
   codeAny (model X.prog X.w) X.A (.compLoop (.ListComp elt [⟨tg, iter, ifs, 0⟩] scope pos) 0 (.ref it) (.ref D) (compEnvC scope (clOf X.env scope.names []) C X.env)) (post (.ref D) C) s₃ := by
  rintro s₃ rfl
  refine lc_loop (fun n s' => ∃ i vs ys H', vs.length = own.length /\ Inv (cxLc X own caps scope C fp s2 H2) [] (vs ++ capV σ js) H' s' /\ tn i s'.heap /\ (∀ b ∈ fp, H' b = none) /\ H' D = some (.lst ys) /\ W i n ys H') ?_ m0
   ⟨0, List.replicate own.length none, [], upd H2 D (.lst []), by simp, I4, T.keep _ _ _ st2 fun b _ o e => old b o e, fun b hb => by rw [upd_ne (Nat.ne_of_lt (fplt b hb))]; exact fpn b hb, upd_same, w0⟩
  rintro n s3 ⟨i, vs, ys, H3, hvs, I3, st3, fr3, hD3, w3⟩
  rcases turn i n ys H3 hD3 w3 with ⟨stop, qn⟩ | ⟨go, step⟩
  ·refine thn (T.done (cxLc X own caps scope C fp s2 H2) rfl rfl rfl hcalm i [] s3 _ H3 (fun _ _ => False) I3 (stat fr3) st3 stop) fun r s5 ⟨hr, I5⟩ => ?_
   subst hr
   obtain ⟨m5, hn5, _⟩ := id I5.loc
   refine hpost D C s5 m5 H3 hn5 (by rw [hDe]; omega) (I2.fpOk (by rw [hDe]; omega) I5.free) ?_ qn
   exact I2.call' (ch := fp) I5.os I5.base I5.hok I5.bare fun b hb => ⟨(f2 b hb).2.2.2.1, (f2 b hb).2.1, (f2 b hb).2.2.2.2⟩
  ·refine thn (T.item (cxLc X own caps scope C fp s2 H2) rfl rfl rfl hcalm i [] s3 _ H3 (fun _ _ => False) I3 (stat fr3) st3 go) fun r s4 ⟨u, hr, h4⟩ => ?_
   subst hr
   refine thn h4 fun _ s5 ⟨x, H5, I5, r5, y5, st5, fr5⟩ => ?_
   have I5' := I5.pinned (stat fr5) (T.obj _ _ st5); refine thn (hg C fp s2 H2 _ s5 _ H5 x u _ I5' r5 (step x H5 y5 vs hvs)) fun _ s6 ⟨σ6, H6, I6, ⟨vs6, hvs6, e6⟩, q6⟩ => ?_
   subst e6
   refine thn (hi C fp s2 H2 _ s6 _ H6 _ I6 q6) fun b s7 ⟨H7, I7, q7⟩ => ?_
   have again : ∀ {H8 : Hp} {s8 : Shared} {ys' : List V}, Inv (cxLc X own caps scope C fp s2 H2) ([] ++ pinsAt fp s5.heap) (vs6 ++ capV σ js) H8 s8 -> H8 D = some (.lst ys') -> (∃ m', m' < n /\ W (i + 1) m' ys' H8) ->
     ∃ m, m < n /\ ∃ i vs ys H', vs.length = own.length /\ Inv (cxLc X own caps scope C fp s2 H2) [] (vs ++ capV σ js) H' s8 /\ tn i s8.heap /\ (∀ b ∈ fp, H' b = none) /\ H' D = some (.lst ys) /\ W i m ys H' := fun {H8 s8 ys'} I8 hD8 w8 => by
    obtain ⟨m', hm, w8⟩ := w8
    refine ⟨m', hm, i + 1, vs6, ys', H8, hvs6, I8.unpinned, T.keep _ _ _ st5 fun b hb o e => (I8.pin (b, o) (List.mem_append_right _ (List.mem_append_right _ (mem_pinsAt hb e)))).1, fun b hb => ?_, hD8, w8⟩
    obtain ⟨o, e, d⟩ := T.obj _ _ st5 b hb
    exact (I8.pin (b, o) (List.mem_append_right _ (List.mem_append_right _ (mem_pinsAt hb e)))).2.1
   cases b with
   | false => exact again I7 q7.1 q7.2
   | true =>
    refine thn (he C fp s2 H2 _ s7 _ H7 _ I7 q7) fun y s8 ⟨v, H8, I8, r8, hD8, hz8, q8⟩ => ?_
    refine thn (mt_append (X := cxLc X own caps scope C fp s2 H2) _ s8 _ H8 (.ref D) [v] (.ref D) [y] (fun z H9 => H9 = upd H8 D (.lst (ys ++ [v]))) I8 rfl (.cons r8 .nil) ⟨D, ys, v, rfl, rfl, hD8, hz8, rfl⟩) fun _ s9 ⟨z, H9, I9, _, e9⟩ => ?_
    subst e9
    exact again I9 upd_same q8
 refine codeAny_compStart_list (loop _ rfl) (T.self _ 0 _ _ _ (T.keep _ _ _ st2 fun b _ o e => old b o e) (loop _ rfl))
theorem pe_lc (hcalm : X.calm = true) (hkind : scope.kind = .function) (hnames : (scope.names.all fun p => !(p.2 == .local) || (scope.names.lookup p.1 == some .local)) = true) (hcell : (scope.names.any fun p => p.2 == .cell) = false)
  (hk : (scope.names.all fun p => !(p.2 == .free) || (X.env.kindOf p.1 == some .cell || X.env.kindOf p.1 == some .free)) = true)
  (hcap : Caps X scope caps js) (hi : PI X tg iter wi) (hg : ∀ C fp s H, PG (cxLc X own caps scope C fp s H) tg g) (ht : ∀ C fp s H, PIfs (cxLc X own caps scope C fp s H) ifs tt) (he : ∀ C fp s H, PE (cxLc X own caps scope C fp s H) elt te)
  (hs : ∀ x, foldedSetIterable iter X.env x = pure x := by intro _; rfl) : PE X (.ListComp elt [⟨tg, iter, ifs, 0⟩] scope pos) (tLc js own.length wi g tt te) := by
 refine ⟨?_⟩
 intro pins s σ H Q I h
 have hfr : ∀ n, (n, NameKind.free) ∈ scope.names -> X.env.kindOf n = some .cell \/ X.env.kindOf n = some .free := fun n hn => by
  have := (List.all_eq_true.mp hk) _ hn
  simpa using this
 have hn' : ∀ x ∈ scope.names, x.2 = .local -> scope.names.lookup x.1 = some .local := fun x hx e => by
  have := (List.all_eq_true.mp hnames) _ hx
  simpa [e] using this
 rw [eval_ListComp]
 refine wpAny_comprehension_free (use := none) rfl hs (closureFor_cl fun n hn => I.ok.has n (hfr n hn)) hkind hn' (thn (hi pins s σ H _ I h) fun v s1 h1 => thn h1 fun itv s2 h2 => ?_)
 obtain ⟨it, fp, tn, J, H2, e, I2, T, st2, f2, hw⟩ := h2
 subst e
 refine lc_run (iter := iter) (pos := pos) (post := fun acc C => compPost (model X.prog X.w) X.A X.xe none (EP X pins σ Q) acc C) hcalm hkind hcell hk hcap hg ht he I2 T st2 f2 hw ?_
 intro D C s' m H' hn _ f hI hq
 exact ⟨m, hn, fun h' hs' => ⟨.ref D, H', hI.turned (t' := s'.toks) (fun b o hb e => (hs'.2 b hb).trans e) f.1 f.2.1 f.2.2.2.1 f.2.2.2.2.1 f.2.2.2.2.2, rfl, hq⟩⟩
theorem ps_setLc {i : Nat} {y : Str} {py : Pos} {spos : Pos} (hsw : swapsWith (.ListComp elt [⟨tg, iter, ifs, 0⟩] scope pos) (some (.Name y py)) spos.line X.env = pure true) (hN : X.N.Nodup) (hy : X.N[i]? = some y) (hyl : X.env.scope.names.lookup y = some .local)
  (hcalm : X.calm = true) (hkind : scope.kind = .function) (hnames : (scope.names.all fun p => !(p.2 == .local) || (scope.names.lookup p.1 == some .local)) = true) (hcell : (scope.names.any fun p => p.2 == .cell) = false)
  (hk : (scope.names.all fun p => !(p.2 == .free) || (X.env.kindOf p.1 == some .cell || X.env.kindOf p.1 == some .free)) = true)
  (hcap : Caps X scope caps js) (hi : PI X tg iter wi) (hg : ∀ C fp s H, PG (cxLc X own caps scope C fp s H) tg g) (ht : ∀ C fp s H, PIfs (cxLc X own caps scope C fp s H) ifs tt) (he : ∀ C fp s H, PE (cxLc X own caps scope C fp s H) elt te)
  (hs : ∀ x, foldedSetIterable iter X.env x = pure x := by intro _; rfl) : PS X (.Assign [.Name y py] (.ListComp elt [⟨tg, iter, ifs, 0⟩] scope pos) spos) (fun D σ H => tLc js own.length wi g tt te σ H fun v H' => D.nx (σ.set i (some v)) H') := by
 refine ⟨?_⟩
 intro pins s σ H D I h
 have hfr : ∀ n, (n, NameKind.free) ∈ scope.names -> X.env.kindOf n = some .cell \/ X.env.kindOf n = some .free := fun n hn => by
  have := (List.all_eq_true.mp hk) _ hn
  simpa using this
 have hn' : ∀ x ∈ scope.names, x.2 = .local -> scope.names.lookup x.1 = some .local := fun x hx e => by
  have := (List.all_eq_true.mp hnames) _ hx
  simpa [e] using this
 rw [exec_Assign_Name_used _ _ _ _ hsw]; refine wpAny_bind (wpAny_standAt (wpAny_bind ?_))
 show wpAny _ _ (do let _ ← comprehension (.ListComp elt [⟨tg, iter, ifs, 0⟩] scope pos) scope X.env _ (newList []) false (eval iter X.env) (some (assign (.Name y py) X.env))) _ _ s
 refine wpAny_bind (wpAny_mono (wpAny_comprehension_free (use := some (assign (.Name y py) X.env)) (Q := fun _ s' => SP X pins D .next s') rfl hs (closureFor_cl fun n hn => I.ok.has n (hfr n hn)) hkind hn'
  (thn (hi pins s σ H _ I h) fun v s1 h1 => thn h1 fun itv s2 h2 => ?_)) (fun _ s' hq => wpAny_pure (wpAny_pure hq)) fun _ _ e => e)
 obtain ⟨it, fp, tn, J, H2, e, I2, T, st2, f2, hw⟩ := h2
 subst e
 refine lc_run (iter := iter) (pos := pos) (post := fun acc C => compPost (model X.prog X.w) X.A X.xe (some (assign (.Name y py) X.env)) (fun _ s' => SP X pins D .next s') acc C) hcalm hkind hcell hk hcap hg ht he I2 T st2 f2 hw ?_
 intro Da C s' m H' hn hCs f I' hq
 show wpAny _ _ (assign (.Name y py) X.env (.ref Da)) _ _ _
 refine wpAny_assign_Name (store_ok2 (v := .ref Da) (u := .ref Da) I' hN hy (.inl hyl) rfl (fun s6 I6 hs6 => ?_) (.inr hyl))
 obtain ⟨a, hsb, ha⟩ := hs6
 have haC : a ≠ C := by
  rcases ha with z | z
  ·rw [z]; exact Ne.symm f.2.1
  ·exact f.2.2.2.2.1 y a z
 exact ⟨m, hn.sameBut hsb (Ne.symm haC), fun h' hs' => ⟨σ.set i (some (.ref Da)), H', I6.turned (t' := s6.toks) (fun b o hb e => (hs'.2 b hb).trans e) f.1 f.2.1 f.2.2.2.1 f.2.2.2.2.1 f.2.2.2.2.2, hq⟩⟩
end
end L2
namespace L2
open PySem PySem.Spec PyProof.Rows
noncomputable def Cal (P : Program) (w : World) (K : PySem.W.Frag) (mg : Str -> Option Value) (base : Heap) (x : Str) (k : Nat) (sp : Sp) : Prop :=
 ∃ (f : Addr) (fd : FuncData) (ps : List Str), FnOk P w K mg base CX0 k f fd ps sp /\ mg x = some (.ref f) /\ PySem.W.keepIn K (.ref f) = true /\ Binds K fd ps []
noncomputable def Has (K : PySem.W.Frag) (mg : Str -> Option Value) (x : Str) (st : Stmt) (ps : List Str) : Prop :=
 ∃ (f : Addr) (fd : FuncData), Fun K x x st f fd /\ mg x = some (.ref f) /\ Binds K fd ps []
section
variable {P : Program} {w : World} {K : PySem.W.Frag} {mg : Str -> Option Value} {base : Heap} {x : Str} {st : Stmt} {N ps : List Str} {k : Nat} {sp : Sp}
theorem Has.cal (h : Has K mg x st ps) (S : FnScope N ps (defScope st)) (len : ∀ vs H Q E, sp vs H Q E -> vs.length = ps.length)
  (hbody : ∀ (f : Addr) (cdv : Value) (A : Around) (outer : List Env) (s : Shared) (H : Hp) (vs : List V) (Q : VK) (E : XK), Room k (A.deeper (envOfC x (defScope st) s.heap.objs.size f cdv)) -> sp vs H Q E ->
   ∃ t, PSs (cxOf CX0 P w K mg base N x (defScope st) f cdv A outer s H E).nox (defBody st) t /\ t { nx := fun _ H' => Q .non H', rt := Q } (start N vs) H) : Cal P w K mg base x (k + 1) sp := by
 obtain ⟨f, fd, F, m, b⟩ := h
 exact ⟨f, fd, ps, F.ok S len (hbody f), m, F.kp, b⟩
end
section
variable {X : Cx} {x : Str} {k : Nat} {sp : Sp} {p pos : Pos} {e : Expr} {es : List Expr} {t : TA}
theorem pe_c (c : Cal X.prog X.w X.K X.mg X.base x k sp) (hr : Room k X.A) (ha : PA X (e :: es) t) (hg : Gl X x := by rfl) (hdb : (x == ("__debug__" : Str)) = false := by decide)
  (he : starEach (e :: es) X.env = (false, eval e X.env) :: starEach es X.env := by rfl) (hpl : (backTo pos (starEach es X.env)).any (·.1) = false := by rfl) : PE X (.Call (.Name x p) (e :: es) [] pos) (tCall sp [] E0 t) := by
 obtain ⟨f, fd, ps, F, m, kk, b⟩ := c
 exact pe_call F hr hg m kk b .nil pass0 ha hdb he hpl
end
end L2
namespace L2
open PySem PySem.Spec PyProof.Rows
theorem b_len : bootBuiltins "len" = some (.builtin "len") := by decide +kernel
theorem b_min : bootBuiltins "min" = some (.builtin "min") := by decide +kernel
theorem b_repr : bootBuiltins "repr" = some (.builtin "repr") := by decide +kernel
theorem b_sorted : bootBuiltins "sorted" = some (.builtin "sorted") := by decide +kernel
theorem b_all : bootBuiltins "all" = some (.builtin "all") := by decide +kernel
theorem b_list : bootBuiltins "list" = some (.type "list") := by decide +kernel
theorem b_tuple : bootBuiltins "tuple" = some (.type "tuple") := by decide +kernel
theorem b_dict : bootBuiltins "dict" = some (.type "dict") := by decide +kernel
theorem b_int : bootBuiltins "int" = some (.type "int") := by decide +kernel
theorem b_range : bootBuiltins "range" = some (.type "range") := by decide +kernel
end L2
namespace L2
open PySem PySem.Spec PyProof.Rows
section
variable {X : Cx}
theorem ext_tup (l : Addr) (its : Array Value) (n : Nat) (b : Addr) (jts : Array Value) (m : Nat) (dd : Option Addr) (sl : Array (Option Value)) (z0 : ¬(!its.isEmpty && Builtin.List.listTooLong (its.size + jts.size)) = true) (z1 : its.size <= sizeLine) (z2 : its.size + jts.size <= sizeLine + 1) :
  Meets (Builtin.«list.extend» ⟨[.ref l, .ref b], []⟩) (fun _ R s => s.heap.get? l = some { cls := .type "list", data := .seq its n } /\ s.heap.get? b = some { cls := .type "tuple", dict := dd, data := .seq jts m, slots := sl } /\
   R (.ok (.ret Value.none)) { s with heap := s.heap.update l (Obj.mapSeq fun x => x ++ jts), toks := s.toks }) :=
 .of_wp fun pr wo ar re st h => by
  obtain ⟨he, ge, dr, tk, oz⟩ := st
  obtain ⟨hl, hb, h⟩ := h
  have f1 := PySem.AutoSeq1.idx_int
  have f2 := PySem.AutoSeq1.sub_tuple_tuple
  have f3 := PySem.AutoSeq1.sub_list_list
  have f4 := PySem.AutoSeq1.sub_tuple_list
  have f5 := PySem.AutoSeq1.sub_list_tuple
  have z3 : (its ++ jts).size <= sizeLine + 1 := by
   rw [Array.size_append]
   exact z2
  wp_walk using (wpAny_updateSeq hl rfl (hz := z1) (_hz' := z3)), PySem.AutoSeq1.wpAny_loadPart' hl, PySem.AutoSeq1.wpAny_loadPart' hb
  exact ⟨_, rfl, h⟩
noncomputable def rExtendT (K : PySem.W.Frag) : V -> List V -> Hp -> VK -> Prop := fun x vs H Q => ∃ l b xs zs, x = .ref l /\ vs = [.ref b] /\ H l = some (.lst xs) /\ SqT K H b zs /\ xs.length + zs.length <= sizeLine /\ Q .non (upd H l (.lst (xs ++ zs)))
theorem mt_extendT : MtM X "list.extend" (rExtendT X.K) := by
 intro pins s σ H x vs v us Q I rx rv h
 obtain ⟨l, b, xs, zs, rfl, rfl, hH, hB, hz, q⟩ := h
 cases rx
 obtain ⟨u, rfl, ru⟩ := rv.one
 cases ru
 obtain ⟨z, its, n, r, hl, e⟩ := I.lstM hH
 obtain ⟨jts, r2, p2, z2⟩ := I.tuple hB
 have hl2 := r2.length
 obtain ⟨⟨c, dd, dt, sl⟩, e2, c2, m, d2⟩ := p2
 simp only at c2 d2
 subst c2 d2
 have hsz : its.toArray.size + jts.toArray.size <= sizeLine := by rw [List.size_toArray, List.size_toArray]; omega
 have hlong : ¬ (!its.toArray.isEmpty && Builtin.List.listTooLong (its.toArray.size + jts.toArray.size)) = true := by
  rw [notLongL hsz, Bool.and_false]
  exact Bool.false_ne_true
 refine call_meets F.slot_list_extend ⟨_, e, rfl⟩ F.entry_list_extend (F.args_list_extend_2 _ _) (ext_tup l its.toArray n b jts.toArray m dd sl hlong (by rw [List.size_toArray]; omega) (by omega)) ⟨e, e2, ?_⟩
 refine ⟨.non, _, I.lset (its' := its ++ jts) hH e (by simp) (r.append r2) ?_, rfl, q⟩
 rw [List.length_append]
 omega
end
end L2
namespace L2
open PySem PySem.Spec PyProof.Rows
noncomputable def conV : Const -> Option V
 | .str x => some (.str x)
 | .int i => some (.int i)
 | .bool b => some (.bl b)
 | .none => some .non
 | _ => none
noncomputable def conOf : List Expr -> Option (List V)
 | [] => some []
 | .Constant c _ _ :: r => match conV c with
  | some v => match conOf r with
   | some vs => some (v :: vs)
   | none => none
  | none => none
 | _ => none
theorem star_con {c : Const} {j : Nat} {pos : Pos} {es : List Expr} {env : Env} : starEach (.Constant c j pos :: es) env = (false, eval (.Constant c j pos) env) :: starEach es env := by rfl
noncomputable def tVs (vs : List V) : TA := fun _ H Q => Q vs H
section
variable {X : Cx}
theorem pe_con1 {c : Const} {j : Nat} {pos : Pos} {v : V} (h : conV c = some v) : PE X (.Constant c j pos) (tC v) := by
 cases c <;> simp [conV] at h <;> subst h
 all_goals first
  | exact pe_str
  | exact pe_int
  | exact pe_bl
  | exact pe_non
theorem pa_consts : ∀ {es : List Expr} {vs : List V}, conOf es = some vs -> PA X es (tVs vs)
 | [], vs, h => by
  cases h
  exact pa_nil
 | e :: es, vs, h => by
  cases e with
  | Constant c j pos =>
   simp only [conOf] at h
   cases h1 : conV c with
   | none =>
    rw [h1] at h
    cases h
   | some v =>
    rw [h1] at h
    cases h2 : conOf es with
    | none => rw [h2] at h; cases h
    | some ws =>
     rw [h2] at h
     cases h
     have p := pa_cons (pe_con1 (X := X) (pos := pos) (j := j) h1) (pa_consts h2) star_con
     exact p
  | _ => simp [conOf] at h
end
end L2
namespace L2
open PySem PySem.Spec PyProof.Rows
structure New (H : Hp) (p : Addr) (o : HO) (H' : Hp) : Prop where
 no : H p = none
 eq : H' = upd H p o
theorem New.at {H H' : Hp} {p : Addr} {o : HO} (n : New H p o H') : H' p = some o := by rw [n.eq, upd_same]
theorem New.keep {H H' : Hp} {p b : Addr} {o u : HO} (n : New H p o H') (e : H b = some u) : H' b = some u := by rw [n.eq, upd_ne (ne_of_none e n.no)]; exact e
structure Chg (H : Hp) (p : Addr) (o : HO) (H' : Hp) : Prop where
 eq : H' = upd H p o
theorem Chg.at {H H' : Hp} {p : Addr} {o : HO} (n : Chg H p o H') : H' p = some o := by rw [n.eq, upd_same]
theorem Chg.keep {H H' : Hp} {p b : Addr} {o u : HO} (n : Chg H p o H') (h : b ≠ p) (e : H b = some u) : H' b = some u := by rw [n.eq, upd_ne h]; exact e
section
variable {X : Cx}
theorem PE.weak {e : Expr} {t t' : TE} (h : PE X e t) (k : ∀ σ H Q, t' σ H Q -> t σ H Q) : PE X e t' := .mk <| fun pins s σ H Q I q => h pins s σ H Q I (k σ H Q q)
theorem OpR.weak {f : Value -> Value -> Sem Value} {r r' : R2} (h : OpR X f r) (k : ∀ x y H Q, r' x y H Q -> r x y H Q) : OpR X f r' := fun pins s σ H x y v u Q I rx ry q => h pins s σ H x y v u Q I rx ry (k x y H Q q)
theorem CallR.weak {f : Value} {r r' : List V -> Hp -> VK -> Prop} (h : CallR X f r) (k : ∀ xs H Q, r' xs H Q -> r xs H Q) : CallR X f r' := fun pins s σ H xs us Q I rv q => h pins s σ H xs us Q I rv (k xs H Q q)
theorem MtM.weak {id : String} {r r' : V -> List V -> Hp -> VK -> Prop} (h : MtM X id r) (k : ∀ x xs H Q, r' x xs H Q -> r x xs H Q) : MtM X id r' := fun pins s σ H x xs v us Q I rx rv q => h pins s σ H x xs v us Q I rx rv (k x xs H Q q)
theorem SlR.weak {r r' : V -> Option Int -> Option Int -> Hp -> VK -> Prop} (h : SlR X r) (k : ∀ x lo hi H Q, r' x lo hi H Q -> r x lo hi H Q) : SlR X r' := by
 intro pins s σ H x v vl vu lo hi sl Q I rx hs pl pu q
 exact h pins s σ H x v vl vu lo hi sl Q I rx hs pl pu (k x lo hi H Q q)
theorem PSet.weak {t t' : TSet} (h : PSet X t) (k : ∀ o i v H Q, t' o i v H Q -> t o i v H Q) : PSet X t' := fun pins s σ H o i v ov iv u Q I ro ri rv q => h pins s σ H o i v ov iv u Q I ro ri rv (k o i v H Q q)
noncomputable def tTupN (t : TA) : TE := fun σ H Q => t σ H fun xs H1 => xs.length <= sizeLine /\ ∀ p H', New H1 p (.tup xs) H' -> Q (.ref p) H'
noncomputable def tLstN (t : TA) : TE := fun σ H Q => t σ H fun xs H1 => xs.length <= sizeLine /\ ∀ p H', New H1 p (.lst xs) H' -> Q (.ref p) H'
theorem pe_tupN {es : List Expr} {t : TA} {x1 pos} (h : PA X es t) : PE X (.Tuple es x1 pos) (tTupN t) := by
 refine ⟨?_⟩
 intro pins s σ H Q I hq
 refine wpAny_Tuple_spliced (thn (h pos pins s σ H _ I hq) fun us s1 ⟨xs, H1, I1, r, z, q⟩ => ⟨by rw [← r.length]; exact z, ?_⟩)
 have hf : H1 s1.heap.objs.size = none := I1.hok.fresh (Nat.le_refl _)
 refine ⟨.ref s1.heap.objs.size, upd H1 s1.heap.objs.size (.tup xs), I1.laid (t' := s1.toks) (fun b u e => Heap.get?_push_of_some _ e) (Nat.le_refl _) ?_, rfl, q _ _ ⟨hf, rfl⟩⟩
 exact ⟨z, us, r, ⟨_, Heap.get?_push_size _ rfl⟩⟩
theorem pe_lstN {es : List Expr} {t : TA} {pos} (h : PA X es t) : PE X (.List es pos) (tLstN t) := by
 refine ⟨?_⟩
 intro pins s σ H Q I hq
 refine wpAny_List_spliced (thn (h pos pins s σ H _ I hq) fun us s1 ⟨xs, H1, I1, r, z, q⟩ => ⟨by rw [← r.length]; exact z, ?_⟩)
 have hf : H1 s1.heap.objs.size = none := I1.hok.fresh (Nat.le_refl _)
 refine ⟨.ref s1.heap.objs.size, upd H1 s1.heap.objs.size (.lst xs), I1.laid (t' := s1.toks) (fun b u e => Heap.get?_push_of_some _ e) (Nat.le_refl _) ?_, rfl, q _ _ ⟨hf, rfl⟩⟩
 exact ⟨z, us, 0, r, Heap.get?_push_size _ rfl⟩
noncomputable def rSlLN (K : PySem.W.Frag) : V -> Option Int -> Option Int -> Hp -> VK -> Prop := fun x lo hi H Q => ∃ a xs, x = .ref a /\ SqL K H a xs /\ ∀ p H', New H p (.lst (cutV xs lo hi)) H' -> Q (.ref p) H'
theorem sl_listN : SlR X (rSlLN X.K) := sl_list.weak fun x lo hi H Q ⟨a, xs, e, h, q⟩ => ⟨a, xs, e, h, fun p hp => q p _ ⟨hp, rfl⟩⟩
noncomputable def rSlTN (K : PySem.W.Frag) : V -> Option Int -> Option Int -> Hp -> VK -> Prop := fun x lo hi H Q => ∃ a xs, x = .ref a /\ SqT K H a xs /\ ¬ (HT.sIx xs.length 0 lo = 0 /\ HT.sIx xs.length xs.length hi = xs.length) /\ ∀ p H', New H p (.tup (cutV xs lo hi)) H' -> Q (.ref p) H'
theorem sl_tupN : SlR X (rSlTN X.K) := sl_tup.weak fun x lo hi H Q ⟨a, xs, e, h, n, q⟩ => ⟨a, xs, e, h, n, fun p hp => q p _ ⟨hp, rfl⟩⟩
noncomputable def rCatN : R2 := fun x y H Q => ∃ l b xs zs, x = .ref l /\ y = .ref b /\ H l = some (.lst xs) /\ H b = some (.lst zs) /\ xs.length + zs.length <= sizeLine /\ ∀ p H', New H p (.lst (xs ++ zs)) H' -> Q (.ref p) H'
theorem op_catN : OpR X (binaryOp .Add) rCatN := op_cat.weak fun x y H Q ⟨l, b, xs, zs, e1, e2, h1, h2, n, q⟩ => ⟨l, b, xs, zs, e1, e2, h1, h2, n, fun p hp => q p _ ⟨hp, rfl⟩⟩
theorem call_listN : CallR X (.type "list") (fun xs H Q => ∃ p ys, xs = [.ref p] /\ (SqL X.K H p ys \/ SqT X.K H p ys) /\ ∀ l H', New H l (.lst ys) H' -> Q (.ref l) H') :=
 call_list_of.weak fun xs H Q ⟨p, ys, e, h, q⟩ => ⟨p, ys, e, h, fun l hl => q l _ ⟨hl, rfl⟩⟩
theorem call_tupleN : CallR X (.type "tuple") (fun xs H Q => ∃ p ys, xs = [.ref p] /\ ((SqL X.K H p ys /\ ∀ l H', New H l (.tup ys) H' -> Q (.ref l) H') \/ (SqT X.K H p ys /\ Q (.ref p) H))) :=
 call_tuple_of.weak fun xs H Q ⟨p, ys, e, h⟩ => ⟨p, ys, e, h.imp (fun ⟨a, q⟩ => ⟨a, fun l hl => q l _ ⟨hl, rfl⟩⟩) id⟩
noncomputable def rAppendN : V -> List V -> Hp -> VK -> Prop := fun x vs H Q => ∃ l xs y, x = .ref l /\ vs = [y] /\ H l = some (.lst xs) /\ xs.length < sizeLine /\ ∀ H', Chg H l (.lst (xs ++ [y])) H' -> Q .non H'
theorem mt_appendN : MtM X "list.append" rAppendN := mt_append.weak fun x vs H Q ⟨l, xs, y, e1, e2, h, n, q⟩ => ⟨l, xs, y, e1, e2, h, n, q _ ⟨rfl⟩⟩
noncomputable def rExtendN : V -> List V -> Hp -> VK -> Prop := fun x vs H Q => ∃ l b xs zs, x = .ref l /\ vs = [.ref b] /\ H l = some (.lst xs) /\ H b = some (.lst zs) /\ xs.length + zs.length <= sizeLine /\ ∀ H', Chg H l (.lst (xs ++ zs)) H' -> Q .non H'
theorem mt_extendN : MtM X "list.extend" rExtendN := mt_extend.weak fun x vs H Q ⟨l, b, xs, zs, e1, e2, h, hb, n, q⟩ => ⟨l, b, xs, zs, e1, e2, h, hb, n, q _ ⟨rfl⟩⟩
noncomputable def rExtendTN (K : PySem.W.Frag) : V -> List V -> Hp -> VK -> Prop := fun x vs H Q => ∃ l b xs zs, x = .ref l /\ vs = [.ref b] /\ H l = some (.lst xs) /\ SqT K H b zs /\ xs.length + zs.length <= sizeLine /\ ∀ H', Chg H l (.lst (xs ++ zs)) H' -> Q .non H'
theorem mt_extendTN : MtM X "list.extend" (rExtendTN X.K) := mt_extendT.weak fun x vs H Q ⟨l, b, xs, zs, e1, e2, h, hb, n, q⟩ => ⟨l, b, xs, zs, e1, e2, h, hb, n, q _ ⟨rfl⟩⟩
noncomputable def rPopAtN : V -> List V -> Hp -> VK -> Prop := fun x vs H Q => ∃ l xs i k y, x = .ref l /\ vs = [.int i] /\ H l = some (.lst xs) /\ -(2 ^ 63) <= i /\ i < 2 ^ 63 /\ seqIndex? i xs.length = some k /\ xs[k]? = some y /\ ∀ H', Chg H l (.lst (xs.eraseIdx k)) H' -> Q y H'
theorem mt_popAtN : MtM X "list.pop" rPopAtN := mt_popAt.weak fun x vs H Q ⟨l, xs, i, k, y, e1, e2, h, n1, n2, n3, n4, q⟩ => ⟨l, xs, i, k, y, e1, e2, h, n1, n2, n3, n4, q _ ⟨rfl⟩⟩
noncomputable def rSetLN : V -> V -> V -> Hp -> (Hp -> Prop) -> Prop := fun o i v H Q => ∃ p xs k j, o = .ref p /\ i = .int k /\ H p = some (.lst xs) /\ ixN xs.length k = some j /\ ∀ H', Chg H p (.lst (xs.set j v)) H' -> Q H'
theorem set_listN : PSet X rSetLN := set_list.weak fun o i v H Q ⟨p, xs, k, j, e1, e2, h, n, q⟩ => ⟨p, xs, k, j, e1, e2, h, n, q _ ⟨rfl⟩⟩
end
end L2
namespace L2
open PySem PySem.Spec PyProof.Rows
theorem Inv.drew {X : Cx} {pins : List (Addr × Obj)} {σ : St} {H : Hp} {s : Shared} (I : Inv X pins σ H s) (d' : Drawn) : Inv X pins σ H { s with drawn := d' } :=
 ⟨I.ok, I.os, I.bare, I.base, I.loc, I.cell, I.free, I.freeC, I.pin, I.hok, I.len⟩
end L2
namespace L2
open PySem PySem.Spec PyProof.Rows
theorem ul_plain : plainId "dict.update.loop" = true := by decide +kernel
theorem ul_entry : entryFor table "dict.update.loop" = some Builtin.«dict.update.loop» := entryFor_of_tree (by kernel_rfl)
theorem keys_list : typeLookup (.type "list") (Str.ofString "keys") = pure none := by rw [typeLookup_type, builtinLookup_eq_fast]; kernel_rfl
theorem keys_tuple : typeLookup (.type "tuple") (Str.ofString "keys") = pure none := by rw [typeLookup_type, builtinLookup_eq_fast]; kernel_rfl
section
variable {prog : Program} {w : World} {A : Around} {E : Value -> Shared -> Prop} {s : Shared} {a : Addr}
theorem nokeys_list {o : Obj} {xs : Array Value} {k : Nat} {Q : Option Value -> Shared -> Prop} (hx : s.heap.get? a = some o) (hc : o.cls = .type "list") (hdat : o.data = .seq xs k) (hd : o.dict = none) (hA : A.handled = none)
  (h : ∀ h' tk, (∀ b u, s.heap.get? b = some u -> h'.get? b = some u) -> Q none { s with heap := h', toks := tk }) : wpAny (model prog w) A (getAttr? (.ref a) (Str.ofString "keys")) Q E s := by
 obtain ⟨c, dct, dat, sl⟩ := o
 simp only at hc hdat hd
 subst hc hdat hd
 obtain ⟨hp, g, d, tk, os⟩ := s; have hT : ∀ tk', (⟨hp, g, d, tk', os⟩ : Shared).TypeIs (.ref a) "list" := fun _ => ⟨_, hx, rfl⟩
 have f1 := sub_AttributeError
 have f3 := PySem.F.slot_list_getattribute.lookup
 have f4 := PySem.F.slot_list_getattribute.bind (.ref a)
 have f5 := am_list_getattr_none; unfold getAttr? getAttrBy? getAttrBy
 repeat (any_goals (first | assumption | exact hT _ | ((with_reducible show wpAny _ _ (call (Value.builtin "list.__getattribute__") _ _) _ _ _); refine call_meets PySem.F.slot_list_getattribute (hT _) am_entry_list_getattribute (PySem.F.args_list_getattribute_2 _ _) (meets_getattribute_miss_list a xs k sl (Str.ofString "keys") _ keys_list (by decide +kernel) (by size_fits)) ⟨hx, hA, fun h' tk' e hx' => ?_⟩) | wp_step))
 obtain ⟨t', u', he⟩ := hx'.there; show wpAny _ _ (getattributeRaised _ _ _ _ _ _ _) _ _ _
 unfold getattributeRaised
 (repeat (any_goals (first | assumption | wp_step))); exact h _ _ fun b u e => hx'.keeps b u e
theorem nokeys_tuple {o : Obj} {xs : Array Value} {k : Nat} {Q : Option Value -> Shared -> Prop} (hx : s.heap.get? a = some o) (hc : o.cls = .type "tuple") (hdat : o.data = .seq xs k) (hd : o.dict = none) (hA : A.handled = none)
  (h : ∀ h' tk, (∀ b u, s.heap.get? b = some u -> h'.get? b = some u) -> Q none { s with heap := h', toks := tk }) : wpAny (model prog w) A (getAttr? (.ref a) (Str.ofString "keys")) Q E s := by
 obtain ⟨c, dct, dat, sl⟩ := o
 simp only at hc hdat hd
 subst hc hdat hd
 obtain ⟨hp, g, d, tk, os⟩ := s; have hT : ∀ tk', (⟨hp, g, d, tk', os⟩ : Shared).TypeIs (.ref a) "tuple" := fun _ => ⟨_, hx, rfl⟩
 have f1 := sub_AttributeError
 have f3 := PySem.F.slot_tuple_getattribute.lookup
 have f4 := PySem.F.slot_tuple_getattribute.bind (.ref a)
 have f5 := am_tuple_getattr_none; unfold getAttr? getAttrBy? getAttrBy
 repeat (any_goals (first | assumption | exact hT _ | ((with_reducible show wpAny _ _ (call (Value.builtin "tuple.__getattribute__") _ _) _ _ _); refine call_meets PySem.F.slot_tuple_getattribute (hT _) am_entry_tuple_getattribute (PySem.F.args_tuple_getattribute_2 _ _) (meets_getattribute_miss_tuple a xs k sl (Str.ofString "keys") _ keys_tuple (by decide +kernel) (by size_fits)) ⟨hx, hA, fun h' tk' e hx' => ?_⟩) | wp_step))
 obtain ⟨t', u', he⟩ := hx'.there; show wpAny _ _ (getattributeRaised _ _ _ _ _ _ _) _ _ _
 unfold getattributeRaised
 (repeat (any_goals (first | assumption | wp_step))); exact h _ _ fun b u e => hx'.keeps b u e
noncomputable def PairAt (h : Heap) (item : Value) (k : Key) (v : Value) : Prop := ∃ q o key c, item = .ref q /\ h.get? q = some o /\ o.cls = .type "tuple" /\ o.data = .seq #[key, v] c /\ keyIs k key = true
noncomputable def fillS (ps : List (Key × Value)) : List (Key × Value) := ps.foldl (fun d p => stored d p.1 p.2) []
theorem stored_len (d : List (Key × Value)) (k : Key) (v : Value) : (stored d k v).length <= d.length + 1 := by
 unfold stored
 split
 ·rw [List.length_map]; omega
 ·rw [List.length_append, List.length_cons, List.length_nil]; omega
theorem fillS_len (ps : List (Key × Value)) : (fillS ps).length <= ps.length := by
 have all : ∀ (l : List (Key × Value)) (d : List (Key × Value)), (l.foldl (fun d p => stored d p.1 p.2) d).length <= d.length + l.length := by
  intro l
  induction l with
  | nil => intro d; exact Nat.le_refl _
  | cons p r ih =>
   intro d
   have h1 := ih (stored d p.1 p.2)
   have h2 := stored_len d p.1 p.2
   rw [List.foldl_cons, List.length_cons]; omega
 have := all ps []
 simpa [fillS] using this
theorem pair_wp {h0 : Heap} {item : Value} {k : Key} {v : Value} {Q : List Value -> Shared -> Prop} (hp : PairAt h0 item k v) (k0 : ∀ q o, item = .ref q -> h0.get? q = some o -> s.heap.get? q = some o)
  (h : ∀ key, keyIs k key = true -> Q [key, v] s) : wpAny (model prog w) A (Builtin.Dict.pairItems item) Q E s := by
 obtain ⟨q, o, key, c, rfl, e, hc, hd, hk⟩ := hp
 have e' := k0 q o rfl e
 unfold Builtin.Dict.pairItems
 refine wpAny_bind (wpAny_typeOf (T := "tuple") ⟨o, e', hc⟩ ?_)
 rw [if_pos (by decide)]
 refine wpAny_bind ?_
 unfold seqItems?
 refine wpAny_bind (wpAny_load e' ?_)
 rw [hd]
 exact wpAny_pure (wpAny_pure (h key hk))
theorem dict_loop {R : Result -> Shared -> Prop} {I : Addr} {fp : List Addr} {St : Nat -> Heap -> Prop} {items : Array Value} (W : Walks prog w A.in1 I fp [I] items.size (fun i v => items[i]? = some v) St) (d : Addr) (hd : d ∉ fp) (h0 : Heap) (ps : List (Key × Value)) (hlen : ps.length = items.size) (hz : ps.length < sizeLine)
  (pair : ∀ (i : Nat) (k : Key) (v item : Value), ps[i]? = some (k, v) -> items[i]? = some item -> PairAt h0 item k v) (away : ∀ b o, h0.get? b = some o -> b ≠ d /\ b ≠ I) :
  ∀ (j i : Nat) (s : Shared), i + j = items.size -> St i s.heap -> (∀ b o, h0.get? b = some o -> s.heap.get? b = some o) -> s.heap.DictOf (mixKind prog w) d (fillS (ps.take i)) ->
   (∀ h' tk, (∀ b o, h0.get? b = some o -> h'.get? b = some o) -> h'.DictOf (mixKind prog w) d (fillS ps) -> R (.ok (.ret .none)) { s with heap := h', toks := tk }) ->
   codeAny (model prog w) A (.builtin "dict.update.loop" ⟨[.ref d, .ref I, rawInt i, .none], []⟩) R s := by
 have hdI : I ∈ fp := W.sub I (by simp)
 have stays : ∀ {h h' : Heap} {kvs : List (Key × Value)}, (∀ b o, b ∉ [I] -> h.get? b = some o -> h'.get? b = some o) -> h.DictOf (mixKind prog w) d kvs -> h'.DictOf (mixKind prog w) d kvs := fun k z => by
  obtain ⟨o, es, ep, e, q⟩ := z
  exact ⟨o, es, ep, k d o (fun m => hd (by rw [List.mem_singleton.mp m]; exact hdI)) e, q⟩
 intro j
 induction j with
 | zero =>
  intro i s hij st kp dd hR
  have ei : i = items.size := by omega
  subst ei
  refine codeAny_builtin ul_entry ?_
  rw [Around.under_plainId ul_plain _]
  refine (show wpAny _ A.in1 (pyNext (.ref I) >>= _) _ _ s from wpAny_bind (W.done s _ _ st fun h' tk k => ?_))
  refine wpAny_bind (show wpAny _ _ (Builtin.Dict.addKeywords d []) _ _ _ from wpAny_pure (wpAny_pure (hR h' tk (fun b o e => k b o (fun m => (away b o e).2 (List.mem_singleton.mp m)) (kp b o e)) ?_)))
  have := stays k dd
  rw [List.take_of_length_le (Nat.le_of_eq hlen)] at this
  exact this
 | succ j ih =>
  intro i s hij st kp dd hR
  refine codeAny_builtin ul_entry ?_
  rw [Around.under_plainId ul_plain _]
  refine (show wpAny _ A.in1 (pyNext (.ref I) >>= _) _ _ s from wpAny_bind (W.item i s _ _ (by omega) st fun v h1 tk hv st1 k => ?_))
  have hi : i < ps.length := by omega
  obtain ⟨⟨key, val⟩, hpi⟩ : ∃ p, ps[i]? = some p := ⟨ps[i], List.getElem?_eq_getElem hi⟩
  have kp1 : ∀ b o, h0.get? b = some o -> h1.get? b = some o := fun b o e => k b o (fun m => (away b o e).2 (List.mem_singleton.mp m)) (kp b o e)
  refine wpAny_bind (wpAny_holding (wpAny_bind (wpAny_tryCatch (pair_wp (pair i key val v hpi hv) (fun q o _ e => kp1 q o e) fun kk hk => ?_))))
  dsimp only
  refine wpAny_holding ?_
  unfold dictSet
  have few : (fillS (ps.take i)).length <= sizeLine := Nat.le_trans (fillS_len _) (by rw [List.length_take]; omega)
  refine wpAny_holding (wpAny_bind ((mixKind prog w).pyHash (k := key) hk (wpAny_dictSetHashed_pairs (hsz := few) (s := { s with heap := h1, toks := tk + 1 }) hk (stays k dd) fun h2 dd2 sb => ?_)))
  have et : fillS (ps.take (i + 1)) = stored (fillS (ps.take i)) key val := by
   rw [List.take_add_one, hpi]
   unfold fillS
   rw [Option.toList_some, List.foldl_append]
   rfl
  refine wpAny_pure ⟨plainId_quiet ul_plain _, ?_⟩
  refine ih (i + 1) { s with heap := h2, toks := tk + 1 } (by omega) (W.frame _ _ _ st1 fun b hb o e => ?_) (fun b o e => ?_) (by rw [et]; exact dd2) fun h' tk' k' dd' => hR h' tk' k' dd'
  ·exact (sb.2 b (fun z => hd (z ▸ hb))).trans e
  ·exact (sb.2 b (away b o e).1).trans (kp1 b o e)
end
end L2
namespace L2
open PySem PySem.Spec PyProof.Rows
section
variable {prog : Program} {w : World} {A : Around} {E : Value -> Shared -> Prop} {s : Shared} {a : Addr}
theorem dict_from {T : String} {oc : Obj} {items : Array Value} {k : Nat} {Q : Value -> Shared -> Prop} (hh : A.handled = none) (hT : T = "list" \/ T = "tuple") (ho : s.heap.get? a = some oc) (hc : oc.cls = .type T) (hd : oc.data = .seq items k) (hdd : oc.dict = none)
  (ps : List (Key × Value)) (hlen : ps.length = items.size) (hz : ps.length < sizeLine) (pair : ∀ (i : Nat) (k : Key) (v item : Value), ps[i]? = some (k, v) -> items[i]? = some item -> PairAt s.heap item k v)
  (h : ∀ h' tk, h'.DictOf (mixKind prog w) s.heap.objs.size (fillS ps) -> (∀ b u, s.heap.get? b = some u -> h'.get? b = some u) -> Q (.ref s.heap.objs.size) { s with heap := h', toks := tk }) :
  wpAny (model prog w) A (call (.type "dict") [.ref a]) Q E s := by
 refine callType_codes (Q₁ := fun obj s1 => obj = .ref s.heap.objs.size /\ s1 = { s with heap := s.heap.push { cls := .type "dict", data := .dict #[] } }) PySem.F.kt_called_dict (PySem.F.kt_typeCall_dict_1 _) PySem.F.entry_dict_init (kt_code_dict_new _ ⟨rfl, rfl⟩) ?_
 rintro obj s1 ⟨rfl, rfl⟩
 have new : (s.heap.push { cls := .type "dict", data := .dict #[] }).DictOf (mixKind prog w) s.heap.objs.size [] := Heap.DictOf.new s.heap
 have g1 : (s.heap.push { cls := .type "dict", data := .dict #[] }).get? a = some oc := Heap.get?_push_of_some _ ho
 have hal := Heap.lt_size ho
 have hh2 : A.in1.in1.handled = none := hh
 refine ⟨new.typeIs, PySem.F.args_dict_init_2 _ _, ?_⟩
 unfold Builtin.«dict.__init__»; refine wpAny_bind ?_
 unfold Builtin.Dict.selfAndRest; refine wpAny_bind (wpAny_notOrdered_dict new.typeIs ?_)
 refine (show wpAny _ _ (pure (s.heap.objs.size, [Value.ref a])) _ _ _ from wpAny_pure ?_)
 show wpAny _ _ (Builtin.Dict.updateFrom "dict.__init__" s.heap.objs.size (.ref a) [] .none) _ _ _
 unfold Builtin.Dict.updateFrom; refine wpAny_bind (wpAny_typeOf (T := T) ⟨oc, g1, hc⟩ ?_)
 rw [if_pos (by rcases hT with rfl | rfl <;> decide)]
 have key : ∀ (h1 : Heap) (tk : Nat), (∀ b u, (s.heap.push { cls := .type "dict", data := .dict #[] }).get? b = some u -> h1.get? b = some u) -> ∀ (oI : Obj) (St : Nat -> Heap -> Prop), St 0 (h1.push oI) ->
   Walks prog w A.in1.in1 h1.objs.size [h1.objs.size, a] [h1.objs.size] items.size (fun i v => items[i]? = some v) St ->
   codeAny (model prog w) A.in1 (.builtin "dict.update.loop" ⟨[.ref s.heap.objs.size, .ref h1.objs.size, rawInt 0, .none], []⟩) (wants (fun r s2 => r = .none /\ Q (.ref s.heap.objs.size) s2) E) { s with heap := h1.push oI, toks := tk } := by
  intro h1 tk k1 oI St st W
  have gd : h1.get? s.heap.objs.size = some { cls := .type "dict", data := .dict #[] } := k1 _ _ (Heap.get?_push_size _ rfl)
  have nd : s.heap.objs.size ∉ [h1.objs.size, a] := by
   simp only [List.mem_cons, List.not_mem_nil, or_false, not_or]
   exact ⟨Nat.ne_of_lt (Heap.lt_size gd), Nat.ne_of_gt hal⟩
  refine dict_loop (A := A.in1) W s.heap.objs.size nd s.heap ps hlen hz pair (fun b o e => ⟨Nat.ne_of_lt (Heap.lt_size e), Nat.ne_of_lt (Heap.lt_size (k1 _ _ (Heap.get?_push_of_some _ e)))⟩) items.size 0 _ (by omega) st (fun b o e => Heap.get?_push_of_some _ (k1 _ _ (Heap.get?_push_of_some _ e))) ?_ fun h' tk' k' dd => ⟨rfl, h h' tk' dd k'⟩
  obtain ⟨o, es, ep, e, q⟩ := new
  exact ⟨o, es, ep, Heap.get?_push_of_some _ (k1 _ _ e), q⟩
 rcases hT with rfl | rfl
 ·refine wpAny_bind (nokeys_list g1 hc hd hdd hh2 fun h1 tk k1 => ?_)
  rw [if_pos (show (none : Option Value).isNone = true from rfl)]
  have l1 : h1.IsList a items := ⟨oc, k1 _ _ g1, hc, k, hd⟩
  refine wpAny_bind (wpAny_rule (wpAny_bind (wpAny_pyIter_list l1 ?_)))
  exact wpAny_pure ⟨plainId_quiet ul_plain _, key h1 tk k1 _ _ ⟨⟨_, Heap.get?_push_size _ rfl, rfl, rfl⟩, l1.push _⟩ (Walks.list hh2 _ a (Nat.ne_of_lt (Heap.lt_size (k1 _ _ g1))) items)⟩
 ·refine wpAny_bind (nokeys_tuple g1 hc hd hdd hh2 fun h1 tk k1 => ?_)
  rw [if_pos (show (none : Option Value).isNone = true from rfl)]
  have l1 : h1.IsTuple a items := ⟨oc, k1 _ _ g1, hc, k, hd⟩
  refine wpAny_bind (wpAny_rule (wpAny_bind (wpAny_pyIter_tuple l1 ?_)))
  exact wpAny_pure ⟨plainId_quiet ul_plain _, key h1 tk k1 _ _ ⟨⟨_, Heap.get?_push_size _ rfl, rfl, rfl⟩, ⟨_, Heap.get?_push_of_some _ (k1 _ _ g1), hc, k, hd⟩⟩ (Walks.tuple hh2 _ a (Nat.ne_of_lt (Heap.lt_size (k1 _ _ g1))) items)⟩
end
noncomputable def fillK (ps : List (Key × V)) : List (Key × V) := ps.foldl (fun d p => putK d p.1 p.2) []
theorem fill_KV {ps : List (Key × V)} {us : List (Key × Value)} (r : KV ps us) : KV (fillK ps) (fillS us) := by
 have all : ∀ {ps : List (Key × V)} {us : List (Key × Value)}, KV ps us -> ∀ {d : List (Key × V)} {e : List (Key × Value)}, KV d e -> KV (ps.foldl (fun d p => putK d p.1 p.2) d) (us.foldl (fun d p => stored d p.1 p.2) e) := by
  intro ps us r
  induction r with
  | nil => intro d e z; exact z
  | cons h _ ih =>
   intro d e z
   rw [List.foldl_cons, List.foldl_cons]; obtain ⟨h1, h2⟩ := h
   rw [← h1]
   exact ih (KV.put z _ h2)
 exact all r .nil
theorem fillK_len (ps : List (Key × V)) : (fillK ps).length <= ps.length := by
 have all : ∀ (l : List (Key × V)) (d : List (Key × V)), (l.foldl (fun d p => putK d p.1 p.2) d).length <= d.length + l.length := by
  intro l
  induction l with
  | nil => intro d; exact Nat.le_refl _
  | cons p r ih =>
   intro d
   have h1 := ih (putK d p.1 p.2)
   have h2 := length_putK d p.1 p.2
   rw [List.foldl_cons, List.length_cons]; omega
 have := all ps []
 simpa [fillK] using this
noncomputable abbrev PairsH (H : Hp) : List Addr -> List (Key × V) -> Prop := Paired fun q p => Rd H q (.tup [kV p.1, p.2])
section
variable {X : Cx}
theorem pairs_at {pins : List (Addr × Obj)} {σ : St} {H : Hp} {s : Shared} (I : Inv X pins σ H s) {qs : List Addr} {ps : List (Key × V)} (h : PairsH H qs ps) :
  ∃ us, KV ps us /\ ∀ (i : Nat) (k : Key) (v : Value), us[i]? = some (k, v) -> ∀ q, qs[i]? = some q -> PairAt s.heap (.ref q) k v := by
 induction h with
 | nil => exact ⟨[], .nil, fun i k v e => by simp at e⟩
 | cons z _ ih =>
  rename_i q p l1 l2 _
  obtain ⟨us, r, f⟩ := ih
  obtain ⟨its, rv, ⟨o, e, c, n, d⟩, _⟩ := I.tuple (.inl z)
  cases rv with
  | cons r1 t1 =>
   cases t1 with
   | cons r2 t2 =>
    cases t2
    rename_i u1 u2
    refine ⟨(p.1, u2) :: us, .cons ⟨rfl, r2⟩ r, fun i k v e1 q' e2 => ?_⟩
    cases i with
    | zero =>
     cases e1
     cases e2
     exact ⟨q, o, u1, n, rfl, e, c, by simpa using d, kV_is (P := X.prog) (w := X.w) r1⟩
    | succ i => exact f i k v e1 q' e2
end
end L2
namespace L2
open PySem PySem.Spec PyProof.Rows
noncomputable def Nx (n : Nat) (Pv : Addr -> Nat -> List V -> Hp -> Prop) (D : Addr) (i : Nat) (ys : List V) (H : Hp) : Prop := ∃ m', m' < n - i /\ m' = n - (i + 1) /\ i + 1 <= n /\ ys.length <= i + 1 /\ Pv D (i + 1) ys H
theorem nx {n : Nat} {Pv : Addr -> Nat -> List V -> Hp -> Prop} {D : Addr} {i : Nat} {ys : List V} {H : Hp} (hi : i < n) (hl : ys.length <= i + 1) (p : Pv D (i + 1) ys H) : Nx n Pv D i ys H := ⟨n - (i + 1), by omega, rfl, hi, hl, p⟩
end L2
namespace L2
open PySem PySem.Spec PyProof.Rows
noncomputable def ConT (K : PySem.W.Frag) (mg : Str -> Option Value) (x : Str) (vs : List V) : Prop := ∃ a, mg x = some (.ref a) /\ ∀ H, SqT K H a vs
section
variable {X : Cx}
theorem call_allL (hc : X.calm = true) : CallR X (.builtin "all") (fun vs H Q => ∃ (a : Addr) (bs : List Bool), vs = [.ref a] /\ SqL X.K H a (bs.map V.bl) /\ Q (.bl (bs.all id)) H) := by
 intro pins s σ H vs us Q I r h
 obtain ⟨a, bs, rfl, hS, q⟩ := h
 obtain ⟨u, rfl, ru⟩ := vals1 r
 cases ru
 have hh : X.A.in1.handled = none := I.ok.hd hc
 obtain ⟨its, rv, ⟨o, n, e, c, dd, d⟩, z⟩ := I.list hS
 have l1 : s.heap.IsList a its.toArray := ⟨o, e, c, n, d⟩
 have hl := rv.length
 rw [List.length_map] at hl
 refine call_all_walk (wpAny_pyIter_list l1 ⟨s.heap.objs.size, _, _, _, _, _, fun i => bs.getD i true, rfl, Walks.list hh _ a (Nat.ne_of_lt (Heap.lt_size e)) its.toArray, ⟨⟨_, Heap.get?_push_size _ rfl, rfl, rfl⟩, l1.push _⟩, ?_, fun h' tk k => ?_⟩)
 ·intro i v s Q E hv hq
  have hi : i < bs.length := by
   have := (Array.getElem?_eq_some_iff.mp hv).1
   rw [List.size_toArray] at this
   omega
  have e1 : (bs.map V.bl)[i]? = some (.bl bs[i]) := by rw [List.getElem?_map, List.getElem?_eq_getElem hi]; rfl
  obtain ⟨u, hu, ru⟩ := rv.get e1
  rw [List.getElem?_toArray, hu] at hv
  obtain rfl : u = v := Option.some.inj hv
  obtain rfl : u = Value.bool bs[i] := ru
  have e3 : bs.getD i true = bs[i] := by rw [List.getD_eq_getElem?_getD, List.getElem?_eq_getElem hi]; rfl
  refine wpAny_truthy_bool ?_
  rw [← e3]; exact hq
 ·have ks : ∀ b u, s.heap.get? b = some u -> h'.get? b = some u := fun b u hb => k b u (fun m => absurd (Heap.lt_size hb) (by rw [List.mem_singleton.mp m]; exact Nat.lt_irrefl _)) (Heap.get?_push_of_some _ hb)
  have e2 : (List.range its.toArray.size).all (fun i => bs.getD i true) = bs.all id := by
   rw [List.size_toArray, ← hl]
   rw [Bool.eq_iff_iff]
   simp only [List.all_eq_true, List.mem_range, id_eq]
   constructor
   ·intro h b hb
    (obtain ⟨i, hi, rfl⟩ := List.getElem_of_mem hb)
    have := h i hi
    rw [List.getD_eq_getElem?_getD, List.getElem?_eq_getElem hi] at this
    exact this
   ·intro h i hi
    (rw [List.getD_eq_getElem?_getD, List.getElem?_eq_getElem hi])
    exact h _ (List.getElem_mem hi)
  rw [e2]
  exact ⟨.bl (bs.all id), H, I.un (Un.kept ks) (I.hok.kept ks), rfl, q⟩
end
end L2
namespace L2
open PySem PySem.Spec PyProof.Rows
theorem Inv.turnedL {X : Cx} {pins : List (Addr × Obj)} {σ : St} {H : Hp} {s : Shared} {h' : Heap} {t' : Nat} {ch : List Addr} (I : Inv X pins σ H s) (k : ∀ b o, b ∉ ch -> s.heap.get? b = some o -> h'.get? b = some o) (hf : ∀ b ∈ ch, FpOk X pins H b) : Inv X pins σ H { s with heap := h', toks := t' } := by
 have no : ∀ b u, H b = some u -> b ∉ ch := fun b u e m => by rw [(hf b m).1] at e; cases e
 refine I.step (g' := s.gens) (d' := s.drawn) (ch := ch) (fun b m => ⟨(hf b m).2.2.2.1, (hf b m).2.1, (hf b m).2.2.2.2.1, (hf b m).2.2.2.2.2⟩) (fun b o _ _ hc e _ => k b o hc e) (fun b o _ _ hc e _ => ⟨o.slots, k b o hc e⟩) (fun _ _ _ _ n => n)
  (fun b o hc e => ⟨o, k b o hc e⟩) (fun _ _ e => e) (fun _ _ _ e => e) (fun b ps e => ⟨#[], by rw [e]; simp⟩) (fun m hm => ?_) (fun b u e => ?_) I.bare
 ·obtain ⟨o, es, ep, ho, r⟩ := hm
  exact ⟨o, es, ep, k _ o (fun z => (hf _ z).2.1 rfl) ho, r⟩
 ·refine (I.hok b u e).stay (fun c v hc q => k c v ?_ q) (fun _ q => q) fun _ _ q => q
  rcases hc with z | z
  ·rw [z]; exact no b u e
  ·exact no c _ z
section
variable {X : Cx}
theorem b_zip : bootBuiltins "zip" = some (.type "zip") := by decide +kernel
end
end L2
namespace L2
open PySem PySem.Spec PyProof.Rows
section
open HT
variable {prog : Program} {w : World} {A : Around} {E : Value -> Shared -> Prop} {s : Shared}
theorem cut_whole {t sl : Addr} {items : Array Value} {vl vu : Value} {lo hi : Option Int} {Q : Value -> Shared -> Prop} (ht : IsTup s.heap t items) (hs : s.heap.IsSliceOf sl vl vu .none) (pl : IsPart vl lo) (pu : IsPart vu hi)
  (hw : sIx items.size 0 lo = 0 /\ sIx items.size items.size hi = items.size) (h : Q (.ref t) s) : wpAny (model prog w) A (getItem (.ref t) (.ref sl)) Q E s := by
 obtain ⟨os, hos, hcs, hds⟩ := id hs
 have hTs : s.TypeIs (.ref sl) "slice" := ⟨os, hos, hcs⟩
 unfold getItem
 try with_reducible refine wpAny_holding ?_
 first | refine wpAny_bind (wpAny_pure ?_) | skip
 refine wpAny_bind (wpAny_sequenceKey ht.typeIs (by decide) (wpAny_bind (wpAny_callSpecial?_slot (name := Str.ofString "__getitem__") ht.typeIs PyProof.Rows.slot_tuple_getitem
  (wpAny_call_entry PyProof.Rows.slot_tuple_getitem ht.typeIs entry_tuple_getitem ?_ (args_tuple_getitem _ _)))))
 show wpAny _ _ (Builtin.Tuple.tupleItemsOf (.ref t) >>= _) _ _ s
 refine wpAny_bind (tupleItemsOf_ ht (wpAny_bind (wpAny_typeOf hTs ?_)))
 rw [if_pos (by decide)]
 refine wpAny_bind (sliceApplied_gen hs pl pu ?_)
 have yes : (((sIx items.size 0 lo : Nat) : Int) == 0 && (1 : Int) == 1 && (sIx items.size items.size hi - sIx items.size 0 lo) == items.size) = true := by
  rw [hw.1, hw.2]; simp
 show wpAny _ _ (if (((sIx items.size 0 lo : Nat) : Int) == 0 && (1 : Int) == 1 && (sIx items.size items.size hi - sIx items.size 0 lo) == items.size) = true then _ else _) _ _ s
 rw [if_pos yes]
 unfold Builtin.Tuple.tupleIsExact
 refine wpAny_bind (wpAny_bind (wpAny_typeOf ht.typeIs (wpAny_pure ?_)))
 rw [if_pos (by decide)]
 exact wpAny_bind (wpAny_rule (wpAny_pure ⟨_, rfl, wpAny_pure h⟩))
end
section
variable {X : Cx}
noncomputable def rSlTA (K : PySem.W.Frag) : V -> Option Int -> Option Int -> Hp -> VK -> Prop := fun x lo hi H Q => ∃ a xs, x = .ref a /\ SqT K H a xs /\ (cutV xs lo hi = xs -> Q (.ref a) H) /\ ∀ p H', New H p (.tup (cutV xs lo hi)) H' -> Q (.ref p) H'
theorem sl_tupA : SlR X (rSlTA X.K) := by
 intro pins s σ H x v vl vu lo hi sl Q I rx hs pl pu h
 obtain ⟨a, xs, rfl, hx, q1, q2⟩ := h
 by_cases c : HT.sIx xs.length 0 lo = 0 /\ HT.sIx xs.length xs.length hi = xs.length
 ·cases rx
  obtain ⟨its, r, ht, hz⟩ := I.tuple hx
  have hlen : its.toArray.size = xs.length := by rw [List.size_toArray]; exact r.length.symm
  refine ⟨"tuple", _, PyProof.Rows.slot_tuple_getitem.lookup, ht.typeIs, ?_⟩
  refine cut_whole ht hs pl pu (by rw [hlen]; exact c) ⟨.ref a, H, I, rfl, q1 ?_⟩
  unfold cutV
  rw [c.1, c.2]; simp
 ·exact sl_tupN pins s σ H (.ref a) v vl vu lo hi sl Q I rx hs pl pu ⟨a, xs, rfl, hx, c, q2⟩
noncomputable def rCatTA (K : PySem.W.Frag) : R2 := fun x y H Q => ∃ a b xs ys, x = .ref a /\ y = .ref b /\ SqT K H a xs /\ SqT K H b ys /\ xs.length + ys.length <= sizeLine /\ (xs = [] -> Q (.ref b) H) /\ (xs ≠ [] -> ys = [] -> Q (.ref a) H) /\ (xs ≠ [] -> ys ≠ [] -> ∀ p H', New H p (.tup (xs ++ ys)) H' -> Q (.ref p) H')
theorem op_catTA : OpR X (binaryOp .Add) (rCatTA X.K) := by
 intro pins s σ H x y v u Q I rx ry h
 obtain ⟨a, b, xs, ys, rfl, rfl, ha, hb, hz, q0, q1, q2⟩ := h
 by_cases c : xs = []
 ·cases rx
  cases ry
  obtain ⟨its, r1, p1, _⟩ := I.tuple ha
  obtain ⟨its2, r2, p2, _⟩ := I.tuple hb
  have e0 : its = [] := r1.nil_iff.mpr c
  subst e0
  obtain ⟨⟨cls, dd, data, sl⟩, ho, hc, n, hd⟩ := id p1
  obtain ⟨⟨cls2, dd2, data2, sl2⟩, ho2, hc2, n2, hd2⟩ := id p2
  simp only at hc hd hc2 hd2
  subst hc hd hc2 hd2
  exact concat_meets ⟨_, ho, rfl⟩ ⟨_, ho2, rfl⟩ noFill_tuple_add seq_tuple_add PySem.F.slot_tuple_add PySem.F.entry_tuple_add (PySem.F.args_tuple_add_2 _ _) (tuple_addW0 a b _ _ n n2 dd dd2 sl sl2 (by simp)) ⟨ho, ho2, ⟨.ref b, H, I, rfl, q0 c⟩⟩
 ·exact op_catT pins s σ H (.ref a) (.ref b) v u Q I rx ry ⟨a, b, xs, ys, rfl, rfl, ha, hb, c, hz, q1 c, fun d p hp => q2 c d p _ ⟨hp, rfl⟩⟩
end
end L2
namespace L2
open PySem PySem.Spec PyProof.Rows
noncomputable def b01 (b : Bool) : Int := if b = true then 1 else 0
noncomputable def numV : V -> Option Int
 | .int i => some i
 | .bl b => some (b01 b)
 | _ => none
section
variable {X : Cx}
theorem op_addL : OpR X (binaryOp .Add) (fun x y H Q => ∃ i j, numV x = some i /\ y = .int j /\ Q (.int (i + j)) H) := by
 intro pins s σ H x y v u Q I rx ry h
 obtain ⟨i, j, hx, rfl, q⟩ := h
 cases x with
 | int k => cases hx; exact op_add pins s σ H _ _ v u Q I rx ry ⟨_, j, rfl, rfl, q⟩
 | bl b =>
  cases hx
  cases rx
  obtain ⟨t', rfl⟩ := ry
  exact PySem.IntBool.add_bool_int ⟨.int (b01 b + j), H, I.tok _, ⟨_, rfl⟩, q⟩
 | _ => cases hx
theorem op_subL : OpR X (binaryOp .Sub) (fun x y H Q => ∃ i j, numV x = some i /\ y = .int j /\ Q (.int (i - j)) H) := by
 intro pins s σ H x y v u Q I rx ry h
 obtain ⟨i, j, hx, rfl, q⟩ := h
 cases x with
 | int k => cases hx; exact op_sub pins s σ H _ _ v u Q I rx ry ⟨_, j, rfl, rfl, q⟩
 | bl b =>
  cases hx
  cases rx
  obtain ⟨t', rfl⟩ := ry
  exact PySem.IntBool.sub_bool_int ⟨.int (b01 b - j), H, I.tok _, ⟨_, rfl⟩, q⟩
 | _ => cases hx
theorem op_subR : OpR X (binaryOp .Sub) (fun x y H Q => ∃ i j, x = .int i /\ numV y = some j /\ Q (.int (i - j)) H) := by
 intro pins s σ H x y v u Q I rx ry h
 obtain ⟨i, j, rfl, hy, q⟩ := h
 cases y with
 | int k => cases hy; exact op_sub pins s σ H _ _ v u Q I rx ry ⟨i, _, rfl, rfl, q⟩
 | bl b =>
  cases hy
  cases ry
  obtain ⟨t', rfl⟩ := rx
  exact PySem.IntBool.sub_int_bool ⟨.int (i - b01 b), H, I.tok _, ⟨_, rfl⟩, q⟩
 | _ => cases hy
end
end L2
namespace L2
open PySem PySem.Spec PyProof.Rows
section
variable {X : Cx}
theorem part_of {v : Value} {o : Option Int} (p : IsPart v o) : ∃ q : Option (Int × Tok), v = partValue q /\ q.map (·.1) = o := by
 cases p with
 | none => exact ⟨none, rfl, rfl⟩
 | int i t => exact ⟨some (i, t), rfl, rfl⟩
end
end L2
namespace L2
open PySem PySem.Spec PyProof.Rows PyProof.Rows.KTD
section
variable {P : Program} {w : World} {A : Around} {E : Value -> Shared -> Prop} {s : Shared}
open PySem.F in
theorem getItem_tab {δ : Type} {R : δ -> Value -> Prop} {d : Addr} {D : List (Str × δ)} {x : Str} {t : Tok} {y : δ} {Q : Value -> Shared -> Prop} (T : TabOf R s.heap d D) (hy : datumAt x D = some y) (hQ : ∀ v, R y v -> Q v { s with toks := s.toks + 1 }) : wpAny (model P w) A (getItem (.ref d) (.str x t)) Q E s := by
 obtain ⟨lo, o, es, ep, ho, hc, hd, hr⟩ := T
 obtain ⟨v, hv, r⟩ := hr.find_some hy
 have hall : (es.all fun e => isExactStrKey e.key) = true := by rw [← Array.all_toList]; exact hr.exact
 have hT : s.TypeIs (.ref d) "dict" := ⟨o, ho, hc.1⟩
 unfold getItem
 try with_reducible refine wpAny_holding ?_
 refine wpAny_bind (wpAny_sequenceKey hT (by decide) (wpAny_bind (wpAny_callSpecial?_slot (name := Str.ofString "__getitem__") hT F.slot_dict_getitem (wpAny_call_entry F.slot_dict_getitem hT F.entry_dict_getitem ?_ (args_dict_getitem _ _)))))
 (show wpAny _ _ (dictGet d (.str x t) >>= _) _ _ s); refine wpAny_bind ?_
 unfold dictGet
 try with_reducible refine wpAny_holding ?_
 refine wpAny_bind (wpAny_pyHash_str (wpAny_bind (kt_dictFind_strs (s := { s with toks := s.toks + 1 }) ho hd hall ?_)))
 have hv' : (es.toList.find? fun e => e.key.isStr x).map (·.val) = some v := hv
 obtain ⟨e, he, hev⟩ := Option.map_eq_some_iff.mp hv'
 have hfi : ∃ i, es.findIdx? (fun e => e.key.isStr x) = some i /\ es[i]? = some e := by
  rw [List.find?_eq_some_iff_getElem] at he
  obtain ⟨h1, i, hi, h2, h3⟩ := he
  refine ⟨i, Array.findIdx?_eq_some_iff_getElem.mpr ⟨by simpa using hi, ?_, fun j hj => ?_⟩, ?_⟩
  ·simp only [Array.getElem_toList] at h2
   rw [h2]; exact h1
  ·have := h3 j hj
   simpa using this
  ·rw [Array.getElem?_eq_getElem (by simpa using hi)]
   simp only [Array.getElem_toList] at h2
   rw [h2]
 obtain ⟨i, hf, hi⟩ := hfi
 rw [hf]
 refine wpAny_bind (wpAny_dictEntries (s := { s with toks := s.toks + 1 }) ho hd (wpAny_pure ?_))
 rw [hi]
 have r' : R y e.val := by rw [show e.val = v from hev]; exact r
 exact wpAny_pure ⟨_, rfl, wpAny_pure (hQ _ r')⟩
end
theorem tail_get {P : Program} {w : World} {A : Around} {E : Value -> Shared -> Prop} {s : Shared} {value slice : Expr} {T id : String} {v u : Value} {Q : Value -> Shared -> Prop} (hT : s.TypeIs v T) (hl : typeLookup (.type T) "__getitem__" = pure (some (.builtin id))) (hs : subscripted slice false v u = operate [v, u] (getItem v u))
  (h : wpAny (model P w) A (getItem v u) Q E s) : wpAny (model P w) A (subscriptTail value slice v u) Q E s := by
 unfold subscriptTail
 refine wpAny_bind ?_
 rw [getitemInPython_of_ne hT.not_modules]
 refine wpAny_bind (wpAny_specialOf hT hl ?_)
 have fin : wpAny (model P w) A (subscripted slice false v u) (fun r s3 => wpAny (model P w) A (letTemporaryGo value v r >>= fun _ => pure r) Q E s3) E s := by
  rw [hs]
  exact wpAny_operating (wpAny_mono h (fun r s3 h3 => wpAny_bind (wpAny_letTemporaryGo (wpAny_pure h3))) fun _ _ x => x)
 first
  | exact wpAny_pure (wpAny_bind fin)
  | exact wpAny_bind (wpAny_pure (wpAny_bind fin))
  | exact wpAny_bind fin
structure TabF (K : PySem.W.Frag) (d : Addr) (D : List (Str × Str)) : Prop where
 tab : ∀ h : Heap, K.In h -> TabOf (fun y v => PySem.W.nsIn K mainGlobals y = some (some v)) h d D
 refs : ∀ k y, datumAt k D = some y -> ∃ f : Addr, PySem.W.nsIn K mainGlobals y = some (some (.ref f))
section
variable {X : Cx}
noncomputable def rIxF (K : PySem.W.Frag) : R2 := fun x y H Q => ∃ d D k z, x = .ref d /\ y = .str k /\ TabF K d D /\ datumAt k D = some z /\ ∀ f : Addr, PySem.W.nsIn K mainGlobals z = some (some (.ref f)) -> Q (.ref f) H
theorem ix_fn : IxR X (rIxF X.K) := by
 intro value slice pins s σ H x y v u Q I rx ry h hs
 obtain ⟨d, D, k, z, rfl, rfl, tf, hz, q⟩ := h
 cases rx
 obtain ⟨t, rfl⟩ := ry
 obtain ⟨f, hf⟩ := tf.refs k z hz
 have hT : s.TypeIs (.ref d) "dict" := by
  obtain ⟨_, o, _, _, ho, hc, _⟩ := tf.tab _ I.kIn
  exact ⟨o, ho, hc.1⟩
 refine tail_get hT PySem.F.slot_dict_getitem.lookup hs (getItem_tab (tf.tab _ I.kIn) hz fun v e => ?_)
 rw [hf] at e
 cases e
 exact ⟨.ref f, H, I.tok _, rfl, q f hf⟩
noncomputable def RunV (X : Cx) (f : Addr) (vs : List V) (H : Hp) (Q : VK) : Prop := ∀ (pins : List (Addr × Obj)) (σ : St) (s : Shared) (us : List Value), Inv X pins σ H s -> Vals vs us -> wpAny (model X.prog X.w) X.A (call (.ref f) us) (EP X pins σ Q) X.xe s
noncomputable def tCallV (X : Cx) (tv : TE) (t : TA) : TE := fun σ H Q => tv σ H fun v H1 => ∃ f, v = .ref f /\ PySem.W.keepIn X.K (.ref f) = true /\ t σ H1 fun vs H2 => RunV X f vs H2 Q
theorem pe_callV {x : Str} {e : Expr} {es : List Expr} {tv : TE} {t : TA} {p pos : Pos} (hv : PE X (.Name x p) tv) (ha : PA X (e :: es) t) (he : starEach (e :: es) X.env = (false, eval e X.env) :: starEach es X.env := by rfl) (hpl : (backTo pos (starEach es X.env)).any (·.1) = false := by rfl) :
  PE X (.Call (.Name x p) (e :: es) [] pos) (tCallV X tv t) := by
 refine ⟨?_⟩
 intro pins s σ H Q I h
 refine wpAny_Call_Name_kw (thn (hv pins s σ H _ I h) fun u s1 ⟨v, H1, I1, r1, q1⟩ => ?_)
 obtain ⟨f, rfl, hk, q⟩ := q1
 cases r1
 refine PySem.W.callWith_K (h₀ := X.base) I.ok.mod.kin hk (thn (ha pos pins s1 σ H1 _ I1 q) fun us s2 ⟨vs, H2, I2, r, q2⟩ => ⟨I2.kIn, ?_⟩) he hpl
 exact q2 pins σ s2 us I2 r
end
end L2
namespace PF
open PySem PySem.Spec
open L2
inductive D where
 | da (d : PyData) | con (ds : List PyData) | frz (ds : List PyData) | set (ds : List PyData)
 | ref (n : Nat) | fn (x : Str) | tabF (T : List (Str × Str)) | ty (n : String)
noncomputable abbrev D.non : D := .da .none
noncomputable abbrev D.bl (b : Bool) : D := .da (.bool b)
noncomputable abbrev D.int (i : Int) : D := .da (.int i)
noncomputable abbrev D.str (x : Str) : D := .da (.str x)
noncomputable abbrev D.tup (ds : List PyData) : D := .da (.tuple ds)
noncomputable abbrev D.lst (ds : List PyData) : D := .da (.list ds)
inductive O where
 | lst (ds : List D) | dct (kvs : List (PyData × D)) | set (ds : List D) | ins (C : Str) (fs : List (Str × D)) | gone
noncomputable abbrev S := List O
inductive R (α : Type) where
 | ok (a : α) (s : S)
 | bad
noncomputable def R.bind {α β : Type} (r : R α) (f : α -> S -> R β) : R β := match r with
 | .ok a s => f a s
 | .bad => .bad
theorem R.bind_ok {α β : Type} (a : α) (s : S) (f : α -> S -> R β) : (R.ok a s).bind f = f a s := rfl
noncomputable def R.W {α : Type} (r : R α) (Q : α -> S -> Prop) : Prop := match r with
 | .ok a s => Q a s
 | .bad => False
theorem R.W_ok {α : Type} (a : α) (s : S) (Q : α -> S -> Prop) : (R.ok a s).W Q = Q a s := rfl
theorem R.W_bind {α β : Type} (r : R α) (f : α -> S -> R β) (Q : β -> S -> Prop) : (r.bind f).W Q = r.W fun a s => (f a s).W Q := by cases r <;> rfl
theorem R.W_mono {α : Type} {r : R α} {Q Q' : α -> S -> Prop} (h : r.W Q) (k : ∀ a s, Q a s -> Q' a s) : r.W Q' := by
 cases r with
 | ok a s => exact k a s h
 | bad => exact h
structure As where
 ix : List (Option Addr)
 hd : List Addr
noncomputable def As.has (as : As) (p : Addr) : Prop := some p ∈ as.ix \/ p ∈ as.hd
noncomputable abbrev As.add (as : As) (p : Addr) : As := { as with ix := as.ix ++ [some p] }
noncomputable abbrev As.cut (as : As) (n : Nat) : As := { as with ix := as.ix.set n none }
noncomputable abbrev As.hide (as : As) (p : Addr) : As := { as with hd := p :: as.hd }
noncomputable abbrev As.show (as : As) (p : Addr) : As := { as with hd := as.hd.filter fun q => decide (q ≠ p) }
structure Step0 (as : As) (H : Hp) (as' : As) (H' : Hp) : Prop where
 len : as.ix.length <= as'.ix.length
 old : ∀ n : Nat, n < as.ix.length -> as'.ix[n]? = as.ix[n]? \/ as'.ix[n]? = some none
 back : ∀ p, as'.has p -> as.has p \/ H p = none
 keep : ∀ b o, ¬ as.has b -> H b = some o -> H' b = some o
 dom : ∀ b, H b ≠ none -> H' b ≠ none
structure Step (as : As) (H : Hp) (as' : As) (H' : Hp) : Prop extends Step0 as H as' H' where
 hk : ∀ p ∈ as.hd, p ∈ as'.hd
 hh : ∀ p ∈ as.hd, ∀ o, H p = some o -> H' p = some o
theorem Step.refl (as : As) (H : Hp) : Step as H as H where
 len := Nat.le_refl _
 old _ _ := .inl rfl
 back _ h := .inl h
 keep _ _ _ e := e
 dom _ e := e
 hk _ h := h
 hh _ _ _ e := e
theorem mem_as {as : As} {p : Addr} : some p ∈ as.ix ↔ ∃ n : Nat, as.ix[n]? = some (some p) := by
 rw [List.mem_iff_getElem?]
theorem Step0.out {as as' : As} {H H' : Hp} (st : Step0 as H as' H') {b : Addr} {o : HO} (n : ¬ as.has b) (e : H b = some o) : ¬ as'.has b := fun m => by
 rcases st.back b m with q | q
 ·exact n q
 ·rw [e] at q; cases q
theorem Step0.trans {as as1 as2 : As} {H H1 H2 : Hp} (a : Step0 as H as1 H1) (b : Step0 as1 H1 as2 H2) : Step0 as H as2 H2 where
 len := Nat.le_trans a.len b.len
 old n hn := by
  rcases b.old n (Nat.lt_of_lt_of_le hn a.len) with q | q
  ·rw [q]; exact a.old n hn
  ·exact .inr q
 back p h := by
  rcases b.back p h with q | q
  ·exact a.back p q
  ·right
   cases z : H p with
   | none => rfl
   | some o => exact absurd q (a.dom p (by rw [z]; simp))
 keep b' o n e := b.keep b' o (a.out n e) (a.keep b' o n e)
 dom b' e := b.dom b' (a.dom b' e)
theorem Step.trans {as as1 as2 : As} {H H1 H2 : Hp} (a : Step as H as1 H1) (b : Step as1 H1 as2 H2) : Step as H as2 H2 := ⟨a.toStep0.trans b.toStep0, fun p h => b.hk p (a.hk p h), fun p h o e => b.hh p (a.hk p h) o (a.hh p h o e)⟩
mutual
inductive TD (as : As) (H : Hp) : V -> PyData -> Prop
 | non : TD as H .non .none
 | bl (b : Bool) : TD as H (.bl b) (.bool b)
 | int (i : Int) : TD as H (.int i) (.int i)
 | str (x : Str) : TD as H (.str x) (.str x)
 | tup {p : Addr} {xs : List V} {ds : List PyData} : ¬ as.has p -> H p = some (.tup xs) -> TDs as H xs ds -> TD as H (.ref p) (.tuple ds)
 | lst {p : Addr} {xs : List V} {ds : List PyData} : ¬ as.has p -> H p = some (.lst xs) -> TDs as H xs ds -> TD as H (.ref p) (.list ds)
 | dct {p : Addr} : ¬ as.has p -> H p = some (.dK []) -> TD as H (.ref p) (.dict [])
inductive TDs (as : As) (H : Hp) : List V -> List PyData -> Prop
 | nil : TDs as H [] []
 | cons {x : V} {xs : List V} {d : PyData} {ds : List PyData} : TD as H x d -> TDs as H xs ds -> TDs as H (x :: xs) (d :: ds)
end
inductive RD (K : PySem.W.Frag) (as : As) (H : Hp) : V -> D -> Prop
 | da {v : V} {d : PyData} : TD as H v d -> RD K as H v (.da d)
 | ty (n : String) : RD K as H (.ty n) (.ty n)
 | fn {f : Addr} {x : Str} : PySem.W.nsIn K mainGlobals x = some (some (.ref f)) -> RD K as H (.ref f) (.fn x)
 | tabF {d : Addr} {T : List (Str × Str)} : TabF K d T -> RD K as H (.ref d) (.tabF T)
 | con {p : Addr} {xs : List V} {ds : List PyData} : (∀ H', SqT K H' p xs) -> TDs as H xs ds -> RD K as H (.ref p) (.con ds)
 | frz {p : Addr} {xs : List V} {ds : List PyData} : (∀ as' H', Step0 as H as' H' -> SqL K H' p xs) -> TDs as H xs ds -> RD K as H (.ref p) (.frz ds)
 | ref {p : Addr} {n : Nat} : n < as.ix.length -> (∀ q, as.ix[n]? = some (some q) -> q = p) -> RD K as H (.ref p) (.ref n)
inductive RDs (K : PySem.W.Frag) (as : As) (H : Hp) : List V -> List D -> Prop
 | nil : RDs K as H [] []
 | cons {x : V} {xs : List V} {d : D} {ds : List D} : RD K as H x d -> RDs K as H xs ds -> RDs K as H (x :: xs) (d :: ds)
noncomputable def kP : Key -> PyData
 | .inl i => .int i
 | .inr x => .str x
noncomputable def isT : PyData -> Bool
 | .tuple xs => keyOk (.tuple xs)
 | _ => false
inductive DRs (K : PySem.W.Frag) (as : As) (H : Hp) : List (PyData × V) -> List (PyData × D) -> Prop
 | nil : DRs K as H [] []
 | cons {k : PyData} {v : V} {d : D} {l : List (PyData × V)} {kvs : List (PyData × D)} : RD K as H v d -> DRs K as H l kvs -> DRs K as H ((k, v) :: l) ((k, d) :: kvs)
inductive FRs (K : PySem.W.Frag) (as : As) (H : Hp) : List (Str × V) -> List (Str × D) -> Prop
 | nil : FRs K as H [] []
 | cons {f : Str} {v : V} {d : D} {l : List (Str × V)} {fs : List (Str × D)} : RD K as H v d -> FRs K as H l fs -> FRs K as H ((f, v) :: l) ((f, d) :: fs)
noncomputable def pvK (l : List (Key × V)) : List (PyData × V) := l.map fun e => (kP e.1, e.2)
noncomputable def RO (K : PySem.W.Frag) (as : As) (H : Hp) (p : Addr) : O -> Prop
 | .lst ds => ∃ xs, H p = some (.lst xs) /\ RDs K as H xs ds
 | .dct kvs => (∃ l : List (Key × V), H p = some (.dK l) /\ DRs K as H (pvK l) kvs) \/ ∃ l : List (PyData × V), (l ≠ [] /\ (l.all fun e => isT e.1) = true) /\ H p = some (.dD l) /\ DRs K as H l kvs
 | .ins C fs => ∃ (Ca dx : Addr) (gs : List (Str × V)), PySem.W.nsIn K mainGlobals C = some (some (.ref Ca)) /\ H p = some (.ins Ca dx gs) /\ FRs K as H gs fs
 | _ => False
structure Rel (K : PySem.W.Frag) (as : As) (H : Hp) (s : S) : Prop where
 len : as.ix.length = s.length
 nd : ∀ (i j : Nat) (p : Addr), as.ix[i]? = some (some p) -> as.ix[j]? = some (some p) -> i = j
 ob : ∀ (n : Nat) (p : Addr) (o : O), as.ix[n]? = some (some p) -> s[n]? = some o -> RO K as H p o
 li : ∀ (n : Nat) (o : O), s[n]? = some o -> o ≠ .gone -> ∃ p, as.ix[n]? = some (some p)
 hs : ∀ p ∈ as.hd, ∃ xs, H p = some (.lst xs)
 hx : ∀ p ∈ as.hd, some p ∉ as.ix
mutual
theorem TD.mono0 {as as' : As} {H H' : Hp} (st : Step0 as H as' H') : ∀ {v : V} {d : PyData}, TD as H v d -> TD as' H' v d
 | _, _, .non => .non
 | _, _, .bl b => .bl b
 | _, _, .int i => .int i
 | _, _, .str x => .str x
 | _, _, .tup n e r => .tup (st.out n e) (st.keep _ _ n e) (TDs.mono0 st r)
 | _, _, .lst n e r => .lst (st.out n e) (st.keep _ _ n e) (TDs.mono0 st r)
 | _, _, .dct n e => .dct (st.out n e) (st.keep _ _ n e)
theorem TDs.mono0 {as as' : As} {H H' : Hp} (st : Step0 as H as' H') : ∀ {vs : List V} {ds : List PyData}, TDs as H vs ds -> TDs as' H' vs ds
 | _, _, .nil => .nil
 | _, _, .cons a r => .cons (TD.mono0 st a) (TDs.mono0 st r)
end
theorem RD.mono0 {K : PySem.W.Frag} {as as' : As} {H H' : Hp} (st : Step0 as H as' H') {v : V} {d : D} (h : RD K as H v d) : RD K as' H' v d := by
 cases h with
 | da t => exact .da (t.mono0 st)
 | ty n => exact .ty n
 | fn a => exact .fn a
 | tabF a => exact .tabF a
 | con h r => exact .con h (r.mono0 st)
 | frz h r => exact .frz (fun as' H' s2 => h as' H' (st.trans s2)) (r.mono0 st)
 | ref l h =>
  refine .ref (Nat.lt_of_lt_of_le l st.len) fun q e => ?_
  rcases st.old _ l with z | z
  ·rw [z] at e; exact h q e
  ·rw [z] at e; cases e
theorem RDs.mono0 {K : PySem.W.Frag} {as as' : As} {H H' : Hp} (st : Step0 as H as' H') : ∀ {vs : List V} {ds : List D}, RDs K as H vs ds -> RDs K as' H' vs ds
 | _, _, .nil => .nil
 | _, _, .cons a r => .cons (RD.mono0 st a) (RDs.mono0 st r)
theorem FRs.mono0 {K : PySem.W.Frag} {as as' : As} {H H' : Hp} (st : Step0 as H as' H') : ∀ {l : List (Str × V)} {fs : List (Str × D)}, FRs K as H l fs -> FRs K as' H' l fs
 | _, _, .nil => .nil
 | _, _, .cons a r => .cons (a.mono0 st) (FRs.mono0 st r)
theorem DRs.mono0 {K : PySem.W.Frag} {as as' : As} {H H' : Hp} (st : Step0 as H as' H') : ∀ {l : List (PyData × V)} {kvs : List (PyData × D)}, DRs K as H l kvs -> DRs K as' H' l kvs
 | _, _, .nil => .nil
 | _, _, .cons a r => .cons (RD.mono0 st a) (DRs.mono0 st r)
theorem DRs.mono {K : PySem.W.Frag} {as as' : As} {H H' : Hp} (st : Step as H as' H') {l : List (PyData × V)} {kvs : List (PyData × D)} (h : DRs K as H l kvs) : DRs K as' H' l kvs := h.mono0 st.toStep0
theorem TD.mono {as as' : As} {H H' : Hp} (st : Step as H as' H') {v : V} {d : PyData} (h : TD as H v d) : TD as' H' v d := h.mono0 st.toStep0
theorem TDs.mono {as as' : As} {H H' : Hp} (st : Step as H as' H') {v : List V} {d : List PyData} (h : TDs as H v d) : TDs as' H' v d := h.mono0 st.toStep0
theorem RD.mono {K : PySem.W.Frag} {as as' : As} {H H' : Hp} (st : Step as H as' H') {v : V} {d : D} (h : RD K as H v d) : RD K as' H' v d := h.mono0 st.toStep0
theorem RDs.mono {K : PySem.W.Frag} {as as' : As} {H H' : Hp} (st : Step as H as' H') {v : List V} {d : List D} (h : RDs K as H v d) : RDs K as' H' v d := h.mono0 st.toStep0
section
variable {K : PySem.W.Frag} {as : As} {H : Hp}
theorem RDs.length : ∀ {vs : List V} {ds : List D}, RDs K as H vs ds -> vs.length = ds.length
 | _, _, .nil => rfl
 | _, _, .cons _ r => congrArg (· + 1) (RDs.length r)
theorem RDs.append : ∀ {vs ws : List V} {ds es : List D}, RDs K as H vs ds -> RDs K as H ws es -> RDs K as H (vs ++ ws) (ds ++ es)
 | _, _, _, _, .nil, s => s
 | _, _, _, _, .cons a r, s => .cons a (RDs.append r s)
theorem RDs.get : ∀ {vs : List V} {ds : List D} {i : Nat} {d : D}, RDs K as H vs ds -> ds[i]? = some d -> ∃ v, vs[i]? = some v /\ RD K as H v d
 | _, _, _, _, .nil, e => by simp at e
 | _, _, 0, _, .cons a _, e => by simp at e; subst e; exact ⟨_, rfl, a⟩
 | _, _, i + 1, d, .cons _ r, e => by
  obtain ⟨v, h1, h2⟩ := RDs.get (i := i) (d := d) r (by simpa using e)
  exact ⟨v, by simpa using h1, h2⟩
theorem RDs.set : ∀ {vs : List V} {ds : List D} (i : Nat) {v : V} {d : D}, RD K as H v d -> RDs K as H vs ds -> RDs K as H (vs.set i v) (ds.set i d)
 | _, _, _, _, _, _, .nil => .nil
 | _, _, 0, _, _, r, .cons _ t => .cons r t
 | _, _, i + 1, _, _, r, .cons q t => .cons q (RDs.set i r t)
theorem RDs.take : ∀ {vs : List V} {ds : List D} (n : Nat), RDs K as H vs ds -> RDs K as H (vs.take n) (ds.take n)
 | _, _, 0, _ => .nil
 | _, _, _ + 1, .nil => .nil
 | _, _, n + 1, .cons r t => .cons r (RDs.take n t)
theorem RDs.drop : ∀ {vs : List V} {ds : List D} (n : Nat), RDs K as H vs ds -> RDs K as H (vs.drop n) (ds.drop n)
 | _, _, 0, r => r
 | _, _, _ + 1, .nil => .nil
 | _, _, n + 1, .cons _ t => RDs.drop n t
theorem RDs.eraseIdx : ∀ {vs : List V} {ds : List D} (n : Nat), RDs K as H vs ds -> RDs K as H (vs.eraseIdx n) (ds.eraseIdx n)
 | _, _, _, .nil => .nil
 | _, _, 0, .cons _ t => t
 | _, _, n + 1, .cons r t => .cons r (RDs.eraseIdx n t)
end
section
variable {as : As} {H : Hp}
theorem TDs.length : ∀ {vs : List V} {ds : List PyData}, TDs as H vs ds -> vs.length = ds.length
 | _, _, .nil => rfl
 | _, _, .cons _ r => congrArg (· + 1) (TDs.length r)
theorem TDs.append : ∀ {vs ws : List V} {ds es : List PyData}, TDs as H vs ds -> TDs as H ws es -> TDs as H (vs ++ ws) (ds ++ es)
 | _, _, _, _, .nil, s => s
 | _, _, _, _, .cons a r, s => .cons a (TDs.append r s)
theorem TDs.get : ∀ {vs : List V} {ds : List PyData} {i : Nat} {d : PyData}, TDs as H vs ds -> ds[i]? = some d -> ∃ v, vs[i]? = some v /\ TD as H v d
 | _, _, _, _, .nil, e => by simp at e
 | _, _, 0, _, .cons a _, e => by simp at e; subst e; exact ⟨_, rfl, a⟩
 | _, _, i + 1, d, .cons _ r, e => by
  obtain ⟨v, h1, h2⟩ := TDs.get (i := i) (d := d) r (by simpa using e)
  exact ⟨v, by simpa using h1, h2⟩
theorem TDs.take : ∀ {vs : List V} {ds : List PyData} (n : Nat), TDs as H vs ds -> TDs as H (vs.take n) (ds.take n)
 | _, _, 0, _ => .nil
 | _, _, _ + 1, .nil => .nil
 | _, _, n + 1, .cons r t => .cons r (TDs.take n t)
theorem TDs.drop : ∀ {vs : List V} {ds : List PyData} (n : Nat), TDs as H vs ds -> TDs as H (vs.drop n) (ds.drop n)
 | _, _, 0, r => r
 | _, _, _ + 1, .nil => .nil
 | _, _, n + 1, .cons _ t => TDs.drop n t
end
theorem TDs.rd {K : PySem.W.Frag} {as : As} {H : Hp} : ∀ {vs : List V} {ds : List PyData}, TDs as H vs ds -> RDs K as H vs (ds.map D.da)
 | _, _, .nil => .nil
 | _, _, .cons a r => .cons (.da a) (TDs.rd r)
noncomputable def pures : List D -> Option (List PyData)
 | [] => some []
 | .da d :: r => match pures r with
  | some ds => some (d :: ds)
  | none => none
 | _ => none
theorem pures_da : ∀ ds : List PyData, pures (ds.map D.da) = some ds
 | [] => rfl
 | d :: r => by rw [List.map_cons, pures, pures_da r]
theorem pures_eq : ∀ {ds : List D} {xs : List PyData}, pures ds = some xs -> ds = xs.map D.da
 | [], xs, h => by cases h; rfl
 | .da d :: r, xs, h => by
  rw [pures] at h
  cases q : pures r with
  | none => rw [q] at h; cases h
  | some ys => rw [q] at h; cases h; rw [pures_eq q]; rfl
 | .con _ :: _, _, h => by cases h
 | .frz _ :: _, _, h => by cases h
 | .set _ :: _, _, h => by cases h
 | .ref _ :: _, _, h => by cases h
 | .fn _ :: _, _, h => by cases h
 | .tabF _ :: _, _, h => by cases h
 | .ty _ :: _, _, h => by cases h
theorem RDs.td {K : PySem.W.Frag} {as : As} {H : Hp} : ∀ {vs : List V} {ds : List PyData}, RDs K as H vs (ds.map D.da) -> TDs as H vs ds
 | _, [], h => by cases h; exact .nil
 | _, d :: r, h => by
  cases h with
  | cons a b => cases a with | da a => exact .cons a (RDs.td b)
theorem dom_new {H H' : Hp} {p b : Addr} {o : HO} (n : New H p o H') (e : H b ≠ none) : H' b ≠ none := by
 cases q : H b with
 | none => exact absurd q e
 | some u => rw [n.keep q]; simp
theorem step_new {as : As} {H H' : Hp} {p : Addr} {o : HO} (n : New H p o H') : Step as H as H' where
 len := Nat.le_refl _
 old _ _ := .inl rfl
 back _ h := .inl h
 keep _ _ _ e := n.keep e
 dom _ e := dom_new n e
 hk _ h := h
 hh _ _ _ e := n.keep e
theorem get_snoc {α : Type} {l : List α} {x y : α} {i : Nat} (e : (l ++ [x])[i]? = some y) : (i < l.length /\ l[i]? = some y) \/ (i = l.length /\ y = x) := by
 by_cases h : i < l.length
 ·rw [List.getElem?_append_left h] at e; exact .inl ⟨h, e⟩
 ·have h2 : i - l.length = 0 \/ 1 <= i - l.length := by omega
  rw [List.getElem?_append_right (Nat.le_of_not_lt h)] at e
  rcases h2 with z | z
  ·rw [z] at e
   simp at e
   exact .inr ⟨by omega, e.symm⟩
  ·rw [List.getElem?_eq_none_iff.mpr (by simpa using z)] at e
   cases e
theorem has_add {as : As} {p q : Addr} (h : (as.add p).has q) : as.has q \/ q = p := by
 rcases h with h | h
 ·rcases List.mem_append.mp h with z | z
  ·exact .inl (.inl z)
  ·exact .inr (by simpa using z)
 ·exact .inl (.inr h)
theorem step_laid {as : As} {H H' : Hp} {p : Addr} {o : HO} (n : New H p o H') : Step as H (as.add p) H' where
 len := by simp
 old i h := .inl (List.getElem?_append_left h)
 back q h := by
  rcases has_add h with z | z
  ·exact .inl z
  ·subst z; exact .inr n.no
 keep _ _ _ e := n.keep e
 dom _ e := dom_new n e
 hk _ h := h
 hh _ _ _ e := n.keep e
theorem step0_chg {as : As} {H H' : Hp} {p : Addr} {o : HO} (m : as.has p) (c : Chg H p o H') : Step0 as H as H' where
 len := Nat.le_refl _
 old _ _ := .inl rfl
 back _ h := .inl h
 keep b u n e := c.keep (fun z => n (z ▸ m)) e
 dom b e := by
  by_cases z : b = p
  ·subst z; rw [c.at]; simp
  ·cases q : H b with
   | none => exact absurd q e
   | some u => rw [c.keep z q]; simp
theorem step_chg {as : As} {H H' : Hp} {p : Addr} {o : HO} (m : some p ∈ as.ix) (nh : p ∉ as.hd) (c : Chg H p o H') : Step as H as H' := ⟨step0_chg (.inl m) c, fun _ h => h, fun q h u e => c.keep (fun z => nh (z ▸ h)) e⟩
theorem step_own {as as2 : As} {H H1 H2 : Hp} {p : Addr} {o : HO} (st : Step as H as2 H1) (no : H p = none) (nh : p ∉ as.hd) (m : p ∈ as2.hd) (c : Chg H1 p o H2) : Step as H as2 H2 :=
 ⟨⟨st.len, st.old, st.back, fun b u n e => c.keep (ne_of_none e no) (st.keep b u n e), fun b e => (step0_chg (.inr m) c).dom b (st.dom b e)⟩, st.hk, fun q h u e => c.keep (fun z => nh (z ▸ h)) (st.hh q h u e)⟩
theorem cut_ix {as : As} {n i : Nat} {q : Addr} (e : (as.cut n).ix[i]? = some (some q)) : as.ix[i]? = some (some q) := by
 by_cases z : n = i
 ·subst z
  rw [List.getElem?_set] at e
  simp at e
 ·rw [List.getElem?_set_ne z] at e; exact e
theorem step_frz {as : As} {H : Hp} (n : Nat) : Step as H (as.cut n) H where
 len := by simp
 old i h := by
  by_cases z : n = i
  ·subst z; right; simp [h]
  ·left; rw [List.getElem?_set_ne z]
 back p h := by
  rcases h with h | h
  ·obtain ⟨i, hi⟩ := mem_as.mp h
   exact .inl (.inl (mem_as.mpr ⟨i, cut_ix hi⟩))
  ·exact .inl (.inr h)
 keep _ _ _ e := e
 dom _ e := e
 hk _ h := h
 hh _ _ _ e := e
theorem step_hide {as : As} {H H' : Hp} {p : Addr} {o : HO} (n : New H p o H') : Step as H (as.hide p) H' where
 len := Nat.le_refl _
 old _ _ := .inl rfl
 back q h := by
  rcases h with h | h
  ·exact .inl (.inl h)
  ·rcases List.mem_cons.mp h with z | z
   ·subst z; exact .inr n.no
   ·exact .inl (.inr z)
 keep _ _ _ e := n.keep e
 dom _ e := dom_new n e
 hk _ h := List.mem_cons_of_mem _ h
 hh _ _ _ e := n.keep e
theorem has_show {as : As} {p q : Addr} (h : (as.show p).has q) : as.has q := by
 rcases h with h | h
 ·exact .inl h
 ·exact .inr (List.mem_filter.mp h).1
theorem step_show {as : As} {H : Hp} {p : Addr} : Step0 as H (as.show p) H where
 len := Nat.le_refl _
 old _ _ := .inl rfl
 back q h := .inl (has_show h)
 keep _ _ _ e := e
 dom _ e := e
theorem step_take {as : As} {H : Hp} {p : Addr} (m : p ∈ as.hd) : Step0 as H ((as.show p).add p) H where
 len := by simp
 old i h := .inl (List.getElem?_append_left h)
 back q h := by
  rcases has_add h with z | z
  ·exact .inl (has_show z)
  ·subst z; exact .inl (.inr m)
 keep _ _ _ e := e
 dom _ e := e
theorem step_end {as as2 : As} {H H2 : Hp} {p : Addr} (st : Step as H as2 H2) (nh : p ∉ as.hd) (st2 : Step0 as2 H2 (as2.show p) H2) : Step as H (as2.show p) H2 :=
 ⟨st.toStep0.trans st2, fun q h => List.mem_filter.mpr ⟨st.hk q h, by
  have : q ≠ p := fun z => nh (z ▸ h)
  simp [this]⟩, st.hh⟩
theorem step_end2 {as as2 : As} {H H2 : Hp} {p : Addr} (st : Step as H as2 H2) (nh : p ∉ as.hd) (m : p ∈ as2.hd) : Step as H ((as2.show p).add p) H2 :=
 ⟨st.toStep0.trans (step_take m), fun q h => List.mem_filter.mpr ⟨st.hk q h, by
  have : q ≠ p := fun z => nh (z ▸ h)
  simp [this]⟩, st.hh⟩
section
variable {K : PySem.W.Frag} {as as' : As} {H H' : Hp} {s : S} {p : Addr}
theorem RO.mono0 (st : Step0 as H as' H') {o : O} (e : H' p = H p) (h : RO K as H p o) : RO K as' H' p o := by
 cases o with
 | lst ds =>
  obtain ⟨xs, e1, r⟩ := h
  exact ⟨xs, e.trans e1, r.mono0 st⟩
 | dct kvs =>
  rcases h with ⟨l, e1, r⟩ | ⟨l, e0, e1, r⟩
  ·exact .inl ⟨l, e.trans e1, r.mono0 st⟩
  ·exact .inr ⟨l, e0, e.trans e1, r.mono0 st⟩
 | ins C fs =>
  obtain ⟨Ca, dx, gs, e0, e1, r⟩ := h
  exact ⟨Ca, dx, gs, e0, e.trans e1, r.mono0 st⟩
 | _ => exact h.elim
theorem RO.some {o : O} (h : RO K as H p o) : H p ≠ none := by
 cases o with
 | lst ds =>
  obtain ⟨xs, e1, r⟩ := h
  rw [e1]; simp
 | dct kvs =>
  rcases h with ⟨l, e1, r⟩ | ⟨l, e0, e1, r⟩ <;> (rw [e1]; simp)
 | ins C fs =>
  obtain ⟨Ca, dx, gs, e0, e1, r⟩ := h
  rw [e1]; simp
 | _ => exact h.elim
theorem Rel.at (r : Rel K as H s) {n : Nat} (e : as.ix[n]? = some (some p)) : H p ≠ none := by
 have hl : n < s.length := by
  rw [← r.len]
  exact (List.getElem?_eq_some_iff.mp e).1
 exact (r.ob n p _ e (List.getElem?_eq_getElem hl)).some
theorem Rel.has (r : Rel K as H s) (h : as.has p) : H p ≠ none := by
 rcases h with h | h
 ·obtain ⟨i, hi⟩ := mem_as.mp h
  exact r.at hi
 ·obtain ⟨xs, e⟩ := r.hs p h
  rw [e]; simp
theorem same_of {H H' : Hp} {q : Addr} (k : ∀ o, H q = some o -> H' q = some o) (h : H q ≠ none) : H' q = H q := by
 cases z : H q with
 | none => exact absurd z h
 | some x => rw [k x z]
theorem Rel.new {o : HO} (r : Rel K as H s) (n : New H p o H') : Rel K as H' s where
 len := r.len
 nd := r.nd
 ob i q u e1 e2 := (r.ob i q u e1 e2).mono0 (step_new n).toStep0 (same_of (fun _ => n.keep) (r.at e1))
 li := r.li
 hs q h := let ⟨xs, e⟩ := r.hs q h; ⟨xs, n.keep e⟩
 hx := r.hx
theorem Rel.laid {o : HO} {u : O} (r : Rel K as H s) (n : New H p o H') (h : RO K (as.add p) H' p u) : Rel K (as.add p) H' (s ++ [u]) where
 len := by simp [r.len]
 nd i j q e1 e2 := by
  rcases get_snoc e1 with ⟨l1, z1⟩ | ⟨l1, z1⟩ <;> rcases get_snoc e2 with ⟨l2, z2⟩ | ⟨l2, z2⟩
  ·exact r.nd i j q z1 z2
  ·cases z2; exact absurd n.no (r.at z1)
  ·cases z1; exact absurd n.no (r.at z2)
  ·rw [l1, l2]
 ob i q x e1 e2 := by
  rcases get_snoc e1 with ⟨l1, z1⟩ | ⟨l1, z1⟩ <;> rcases get_snoc e2 with ⟨l2, z2⟩ | ⟨l2, z2⟩
  ·exact (r.ob i q x z1 z2).mono0 (step_laid n).toStep0 (same_of (fun _ => n.keep) (r.at z1))
  ·rw [l2, ← r.len] at l1; exact absurd l1 (Nat.lt_irrefl _)
  ·rw [l1, r.len] at l2; exact absurd l2 (Nat.lt_irrefl _)
  ·cases z1; subst z2; exact h
 li i x e g := by
  rcases get_snoc e with ⟨l1, z1⟩ | ⟨l1, z1⟩
  ·obtain ⟨q, hq⟩ := r.li i x z1 g
   exact ⟨q, by rw [List.getElem?_append_left (by rw [r.len]; exact l1)]; exact hq⟩
  ·exact ⟨p, by rw [l1, ← r.len]; simp⟩
 hs q h := let ⟨xs, e⟩ := r.hs q h; ⟨xs, n.keep e⟩
 hx q h m := by
  rcases List.mem_append.mp m with z | z
  ·exact r.hx q h z
  ·have : q = p := by simpa using z
   subst this
   obtain ⟨xs, e⟩ := r.hs q h
   rw [n.no] at e; cases e
theorem Rel.chg {o : HO} {u : O} {n : Nat} (r : Rel K as H s) (e : as.ix[n]? = some (some p)) (c : Chg H p o H') (h : RO K as H' p u) : Rel K as H' (s.set n u) where
 len := by simp [r.len]
 nd := r.nd
 ob i q x e1 e2 := by
  by_cases z : n = i
  ·subst z
   rw [e] at e1; cases e1
   have hl : n < s.length := by rw [← r.len]; exact (List.getElem?_eq_some_iff.mp e).1
   rw [List.getElem?_set_self hl] at e2
   cases e2; exact h
  ·rw [List.getElem?_set_ne z] at e2
   have ne : q ≠ p := fun w => z (r.nd n i p e (w ▸ e1))
   exact (r.ob i q x e1 e2).mono0 (step0_chg (.inl (mem_as.mpr ⟨n, e⟩)) c) (same_of (fun _ => c.keep ne) (r.at e1))
 li i x e2 g := by
  by_cases z : n = i
  ·subst z; exact ⟨p, e⟩
  ·rw [List.getElem?_set_ne z] at e2
   exact r.li i x e2 g
 hs q h := let ⟨xs, e'⟩ := r.hs q h; ⟨xs, c.keep (fun z => r.hx q h (mem_as.mpr ⟨n, z ▸ e⟩)) e'⟩
 hx := r.hx
theorem Rel.chgH {ys : List V} (r : Rel K as H s) (m : p ∈ as.hd) (c : Chg H p (.lst ys) H') : Rel K as H' s where
 len := r.len
 nd := r.nd
 ob i q x e1 e2 := by
  have ne : q ≠ p := fun w => r.hx p m (mem_as.mpr ⟨i, w ▸ e1⟩)
  exact (r.ob i q x e1 e2).mono0 (step0_chg (.inr m) c) (same_of (fun _ => c.keep ne) (r.at e1))
 li := r.li
 hs q h := by
  by_cases z : q = p
  ·subst z; exact ⟨ys, c.at⟩
  ·obtain ⟨xs, e⟩ := r.hs q h
   exact ⟨xs, c.keep z e⟩
 hx := r.hx
theorem Rel.hide {ys : List V} (r : Rel K as H s) (n : New H p (.lst ys) H') : Rel K (as.hide p) H' s where
 len := r.len
 nd := r.nd
 ob i q u e1 e2 := (r.ob i q u e1 e2).mono0 (step_hide n).toStep0 (same_of (fun _ => n.keep) (r.at e1))
 li := r.li
 hs q h := by
  rcases List.mem_cons.mp h with z | z
  ·subst z; exact ⟨ys, n.at⟩
  ·obtain ⟨xs, e⟩ := r.hs q z
   exact ⟨xs, n.keep e⟩
 hx q h m := by
  rcases List.mem_cons.mp h with z | z
  ·subst z
   obtain ⟨i, hi⟩ := mem_as.mp m
   exact r.at hi n.no
  ·exact r.hx q z m
theorem Rel.show (r : Rel K as H s) : Rel K (as.show p) H s where
 len := r.len
 nd := r.nd
 ob i q u e1 e2 := (r.ob i q u e1 e2).mono0 step_show rfl
 li := r.li
 hs q h := r.hs q (List.mem_filter.mp h).1
 hx q h := r.hx q (List.mem_filter.mp h).1
theorem Rel.take {u : O} (r : Rel K as H s) (m : p ∈ as.hd) (h : RO K ((as.show p).add p) H p u) : Rel K ((as.show p).add p) H (s ++ [u]) where
 len := by simp [r.len]
 nd i j q e1 e2 := by
  rcases get_snoc e1 with ⟨l1, z1⟩ | ⟨l1, z1⟩ <;> rcases get_snoc e2 with ⟨l2, z2⟩ | ⟨l2, z2⟩
  ·exact r.nd i j q z1 z2
  ·cases z2; exact absurd (mem_as.mpr ⟨i, z1⟩) (r.hx p m)
  ·cases z1; exact absurd (mem_as.mpr ⟨j, z2⟩) (r.hx p m)
  ·rw [l1, l2]
 ob i q x e1 e2 := by
  rcases get_snoc e1 with ⟨l1, z1⟩ | ⟨l1, z1⟩ <;> rcases get_snoc e2 with ⟨l2, z2⟩ | ⟨l2, z2⟩
  ·exact (r.ob i q x z1 z2).mono0 (step_take m) rfl
  ·rw [l2, ← r.len] at l1; exact absurd l1 (Nat.lt_irrefl _)
  ·rw [l1] at l2
   have : as.ix.length < s.length := l2
   rw [r.len] at this; exact absurd this (Nat.lt_irrefl _)
  ·cases z1; subst z2; exact h
 li i x e g := by
  rcases get_snoc e with ⟨l1, z1⟩ | ⟨l1, z1⟩
  ·obtain ⟨q, hq⟩ := r.li i x z1 g
   exact ⟨q, by rw [List.getElem?_append_left (by rw [r.len]; exact l1)]; exact hq⟩
  ·exact ⟨p, by rw [l1, ← r.len]; simp⟩
 hs q h := r.hs q (List.mem_filter.mp h).1
 hx q h m2 := by
  obtain ⟨h1, h2⟩ := List.mem_filter.mp h
  rcases List.mem_append.mp m2 with z | z
  ·exact r.hx q h1 z
  ·have : q = p := by simpa using z
   exact absurd this (of_decide_eq_true h2)
theorem Rel.frz {n : Nat} (r : Rel K as H s) : Rel K (as.cut n) H (s.set n .gone) where
 len := by simp [r.len]
 nd i j q e1 e2 := by
  exact r.nd i j q (cut_ix e1) (cut_ix e2)
 ob i q x e1 e2 := by
  by_cases z : n = i
  ·subst z
   rw [List.getElem?_set] at e1
   simp at e1
  ·rw [List.getElem?_set_ne z] at e1 e2
   exact (r.ob i q x e1 e2).mono0 (step_frz n).toStep0 rfl
 li i x e2 g := by
  by_cases z : n = i
  ·subst z
   rw [List.getElem?_set] at e2
   simp at e2
   exact absurd e2.2.symm g
  ·rw [List.getElem?_set_ne z] at e2 ⊢
   exact r.li i x e2 g
 hs := r.hs
 hx q h m := by
  obtain ⟨i, hi⟩ := mem_as.mp m
  by_cases z : n = i
  ·subst z
   rw [List.getElem?_set] at hi
   simp at hi
  ·rw [List.getElem?_set_ne z] at hi
   exact r.hx q h (mem_as.mpr ⟨i, hi⟩)
end
end PF
namespace PF
open PySem PySem.Spec
open L2
noncomputable abbrev En := List (Option D)
structure Envs (K : PySem.W.Frag) (as : As) (H : Hp) (ρ : En) (σ : St) : Prop where
 len : ρ.length = σ.length
 get : ∀ (i : Nat) (d : D), ρ[i]? = some (some d) -> ∃ v, σ[i]? = some (some v) /\ RD K as H v d
theorem Envs.mono {K : PySem.W.Frag} {as as' : As} {H H' : Hp} {ρ : En} {σ : St} (e : Envs K as H ρ σ) (st : Step as H as' H') : Envs K as' H' ρ σ := ⟨e.len, fun i d h => let ⟨v, a, b⟩ := e.get i d h; ⟨v, a, b.mono st⟩⟩
theorem Envs.set {K : PySem.W.Frag} {as : As} {H : Hp} {ρ : En} {σ : St} (e : Envs K as H ρ σ) (i : Nat) {v : V} {d : D} (r : RD K as H v d) : Envs K as H (ρ.set i (some d)) (σ.set i (some v)) := by
 refine ⟨by simp [e.len], fun j x h => ?_⟩
 by_cases z : i = j
 ·subst z
  rw [List.getElem?_set] at h ⊢
  by_cases hl : i < ρ.length
  ·simp [hl] at h
   subst h
   exact ⟨v, by simp [← e.len, hl], r⟩
  ·simp [hl] at h
 ·rw [List.getElem?_set_ne z] at h ⊢
  exact e.get j x h
noncomputable def Dn {α β : Type} (K : PySem.W.Frag) (rel : As -> Hp -> β -> α -> Prop) (as : As) (H : Hp) (r : R α) (Q : β -> Hp -> Prop) : Prop := match r with
 | .ok a s => ∀ b as' H', Step as H as' H' -> Rel K as' H' s -> rel as' H' b a -> Q b H'
 | .bad => False
theorem Dn.step {α β : Type} {K : PySem.W.Frag} {rel : As -> Hp -> β -> α -> Prop} {as as1 : As} {H H1 : Hp} {r : R α} {Q : β -> Hp -> Prop} (h : Dn K rel as H r Q) (st : Step as H as1 H1) : Dn K rel as1 H1 r Q := by
 cases r with
 | ok a s => exact fun b as' H' s2 rl rb => h b as' H' (st.trans s2) rl rb
 | bad => exact h
theorem Dn.bind {α β γ δ : Type} {K : PySem.W.Frag} {r1 : As -> Hp -> β -> α -> Prop} {r2 : As -> Hp -> δ -> γ -> Prop} {as : As} {H : Hp} {r : R α} {f : α -> S -> R γ} {Q : δ -> Hp -> Prop} {Q' : β -> Hp -> Prop} (h : Dn K r2 as H (r.bind f) Q)
  (k : ∀ a s as1 H1 b, Step as H as1 H1 -> Rel K as1 H1 s -> r1 as1 H1 b a -> Dn K r2 as1 H1 (f a s) Q -> Q' b H1) : Dn K r1 as H r Q' := by
 cases r with
 | ok a s => exact fun b as' H' st rl rb => k a s as' H' b st rl rb (Dn.step (r := f a s) h st)
 | bad => exact h
theorem Dn.now {α β : Type} {K : PySem.W.Frag} {rel : As -> Hp -> β -> α -> Prop} {as : As} {H : Hp} {a : α} {s : S} {Q : β -> Hp -> Prop} {b : β} (h : Dn K rel as H (.ok a s) Q) (rl : Rel K as H s) (rb : rel as H b a) : Q b H := h b as H (Step.refl _ _) rl rb
noncomputable abbrev rD (K : PySem.W.Frag) : As -> Hp -> V -> D -> Prop := fun as H v d => RD K as H v d
noncomputable abbrev rB : As -> Hp -> Bool -> Bool -> Prop := fun _ _ b a => b = a
noncomputable abbrev rL (K : PySem.W.Frag) : As -> Hp -> List V -> List D -> Prop := fun as H v d => RDs K as H v d
inductive Fl where
 | nx (ρ : En) | rt (d : D) | bk (ρ : En) | ct (ρ : En)
inductive FV where
 | nx (σ : St) | rt (v : V) | bk (σ : St) | ct (σ : St)
inductive rF (K : PySem.W.Frag) (as : As) (H : Hp) : FV -> Fl -> Prop
 | nx {σ : St} {ρ : En} : Envs K as H ρ σ -> rF K as H (.nx σ) (.nx ρ)
 | rt {v : V} {d : D} : RD K as H v d -> rF K as H (.rt v) (.rt d)
 | bk {σ : St} {ρ : En} : Envs K as H ρ σ -> rF K as H (.bk σ) (.bk ρ)
 | ct {σ : St} {ρ : En} : Envs K as H ρ σ -> rF K as H (.ct σ) (.ct ρ)
noncomputable def endF (D : Ends) (f : FV) (H : Hp) : Prop := match f with
 | .nx σ => D.nx σ H
 | .rt v => D.rt v H
 | .bk σ => D.bk σ H
 | .ct σ => D.ct σ H
noncomputable abbrev FE := En -> S -> R D
noncomputable abbrev FT := En -> S -> R Bool
noncomputable abbrev FA := En -> S -> R (List D)
noncomputable abbrev FS := En -> S -> R Fl
noncomputable def RefE (K : PySem.W.Frag) (t : TE) (f : FE) : Prop := ∀ as σ H ρ s Q, Rel K as H s -> Envs K as H ρ σ -> Dn K (rD K) as H (f ρ s) Q -> t σ H Q
noncomputable def RefT (K : PySem.W.Frag) (t : TT) (f : FT) : Prop := ∀ as σ H ρ s Q, Rel K as H s -> Envs K as H ρ σ -> Dn K rB as H (f ρ s) Q -> t σ H Q
noncomputable def RefA (K : PySem.W.Frag) (t : TA) (f : FA) : Prop := ∀ as σ H ρ s Q, Rel K as H s -> Envs K as H ρ σ -> Dn K (rL K) as H (f ρ s) Q -> t σ H Q
noncomputable def RefS (K : PySem.W.Frag) (t : TS) (f : FS) : Prop := ∀ as σ H ρ s D, Rel K as H s -> Envs K as H ρ σ -> Dn K (rF K) as H (f ρ s) (endF D) -> t D σ H
structure RE (X : Cx) (e : Expr) (f : FE) : Prop where
 ex : ∃ t, PE X e t /\ RefE X.K t f
structure RT (X : Cx) (e : Expr) (f : FT) : Prop where
 ex : ∃ t, PT X e t /\ RefT X.K t f
structure RW (X : Cx) (e : Expr) (f : FT) : Prop where
 ex : ∃ t, PW X e t /\ RefT X.K t f
structure RA (X : Cx) (es : List Expr) (f : FA) : Prop where
 ex : ∃ t, PA X es t /\ RefA X.K t f
structure RS (X : Cx) (st : Stmt) (f : FS) : Prop where
 ex : ∃ t, PS X st t /\ RefS X.K t f
structure RSs (X : Cx) (st : List Stmt) (f : FS) : Prop where
 ex : ∃ t, PSs X st t /\ RefS X.K t f
section
variable {X : Cx} {a b : Expr} {fa fb : FE} {pos : Pos}
noncomputable def fVar (i : Nat) : FE := fun ρ s => match ρ[i]? with
 | some (some d) => .ok d s
 | _ => .bad
noncomputable def fC (d : D) : FE := fun _ s => .ok d s
theorem ref_var {K : PySem.W.Frag} (i : Nat) : RefE K (tVar i) (fVar i) := by
 intro as σ H ρ s Q rl en h
 unfold fVar at h
 cases q : ρ[i]? with
 | none => rw [q] at h; exact h.elim
 | some o =>
  cases o with
  | none => rw [q] at h; exact h.elim
  | some d =>
   rw [q] at h
   obtain ⟨v, e, r⟩ := en.get i d q
   exact ⟨v, e, Dn.now h rl r⟩
theorem re_var (i : Nat) {x : Str} {pos : Pos} (hN : X.N[i]? = some x := by rfl) (hv : Vis X.env.scope x := by first | exact Or.inl rfl | exact Or.inr (Or.inl rfl) | exact Or.inr (Or.inr rfl)) (hd : (x == ("__debug__" : Str)) = false := by decide)
  (hcd : (x == ("__classdict__" : Str)) = false := by decide) : RE X (.Name x pos) (fVar i) := ⟨_, pe_var hN hv hd hcd, ref_var i⟩
theorem ref_c {K : PySem.W.Frag} {v : V} {d : D} (r : ∀ as H, RD K as H v d) : RefE K (tC v) (fC d) := fun as σ H ρ s Q rl en h => Dn.now (K := K) (rel := rD K) h rl (r as H)
theorem re_int {i j pos} : RE X (.Constant (.int i) j pos) (fC (.int i)) := ⟨_, pe_int, ref_c fun _ _ => .da (.int i)⟩
theorem re_str {x j pos} : RE X (.Constant (.str x) j pos) (fC (.str x)) := ⟨_, pe_str, ref_c fun _ _ => .da (.str x)⟩
theorem re_bl {b j pos} : RE X (.Constant (.bool b) j pos) (fC (.bl b)) := ⟨_, pe_bl, ref_c fun _ _ => .da (.bl b)⟩
theorem re_non {j pos} : RE X (.Constant .none j pos) (fC .non) := ⟨_, pe_non, ref_c fun _ _ => .da .non⟩
theorem re_glob {x : Str} {v : V} {u : Value} {d : D} {pos : Pos} (r : ∀ as H, RD X.K as H v d) (hm : X.mg x = some u) (rv : RelV v u) (hg : Gl X x := by rfl) (hd : (x == ("__debug__" : Str)) = false := by decide) : RE X (.Name x pos) (fC d) := ⟨_, pe_glob hg hm rv hd, ref_c r⟩
noncomputable def fOp (g : D -> D -> S -> R D) (fa fb : FE) : FE := fun ρ s => (fa ρ s).bind fun x s1 => (fb ρ s1).bind fun y s2 => g x y s2
noncomputable def Ref2 (K : PySem.W.Frag) (r : R2) (g : D -> D -> S -> R D) : Prop := ∀ as H s x y dx dy Q, Rel K as H s -> RD K as H x dx -> RD K as H y dy -> Dn K (rD K) as H (g dx dy s) Q -> r x y H Q
theorem ref_op {K : PySem.W.Frag} {r : R2} {g : D -> D -> S -> R D} {ta tb : TE} (hr : Ref2 K r g) (ha : RefE K ta fa) (hb : RefE K tb fb) : RefE K (tOp r ta tb) (fOp g fa fb) := by
 intro as σ H ρ s Q rl en h
 refine ha as σ H ρ s _ rl en (Dn.bind h fun d1 s1 as1 H1 x st1 rl1 r1 h1 => ?_)
 refine hb as1 σ H1 ρ s1 _ rl1 (en.mono st1) (Dn.bind h1 fun d2 s2 as2 H2 y st2 rl2 r2 h2 => ?_)
 exact hr as2 H2 s2 x y d1 d2 Q rl2 (r1.mono st2) r2 h2
structure Op2 (X : Cx) (f : Value -> Value -> Sem Value) (g : D -> D -> S -> R D) : Prop where
 ex : ∃ r, OpR X f r /\ Ref2 X.K r g
theorem re_op {op : Operator} {g : D -> D -> S -> R D} (o : Op2 X (binaryOp op) g) (ha : RE X a fa) (hb : RE X b fb) : RE X (.BinOp a op b pos) (fOp g fa fb) := by
 obtain ⟨r, ho, hr⟩ := o.ex
 obtain ⟨ta, pa, ra⟩ := ha.ex
 obtain ⟨tb, pb, rb⟩ := hb.ex
 exact ⟨_, pe_op ho pa pb, ref_op hr ra rb⟩
theorem re_cmp {op : CmpOp} {g : D -> D -> S -> R D} (o : Op2 X (compareOp op) g) (ha : RE X a fa) (hb : RE X b fb) (hm : behindInMarks op b = false := by first | exact nomark _ | with_unfolding_all rfl) : RE X (.Compare a [op] [b] pos) (fOp g fa fb) := by
 obtain ⟨r, ho, hr⟩ := o.ex
 obtain ⟨ta, pa, ra⟩ := ha.ex
 obtain ⟨tb, pb, rb⟩ := hb.ex
 exact ⟨_, pe_cmpR ho pa pb hm, ref_op hr ra rb⟩
noncomputable def fTest (f : FE) : FT := fun ρ s => (f ρ s).bind fun d s1 => match d with
 | .bl k => .ok k s1
 | _ => .bad
theorem ref_test {K : PySem.W.Frag} {t : TE} {f : FE} (h : RefE K t f) : RefT K (tTest t) (fTest f) := by
 intro as σ H ρ s Q rl en q
 refine h as σ H ρ s _ rl en (Dn.bind q fun d1 s1 as1 H1 x st1 rl1 r1 h1 => ?_)
 cases r1 with
 | da t =>
  cases t with
  | bl k => exact ⟨k, rfl, Dn.now h1 rl1 rfl⟩
  | _ => exact h1.elim
 | _ => exact h1.elim
theorem rt_cmp {op : CmpOp} {g : D -> D -> S -> R D} (o : Op2 X (compareOp op) g) (ha : RE X a fa) (hb : RE X b fb) (hm : behindInMarks op b = false := by first | exact nomark _ | with_unfolding_all rfl) : RT X (.Compare a [op] [b] pos) (fTest (fOp g fa fb)) := by
 obtain ⟨r, ho, hr⟩ := o.ex
 obtain ⟨ta, pa, ra⟩ := ha.ex
 obtain ⟨tb, pb, rb⟩ := hb.ex
 exact ⟨_, pt_cmpR ho pa pb hm, ref_test (ref_op hr ra rb)⟩
noncomputable def fAndT (f g : FT) : FT := fun ρ s => (f ρ s).bind fun c s1 => if c = true then g ρ s1 else .ok false s1
noncomputable def fOrT (f g : FT) : FT := fun ρ s => (f ρ s).bind fun c s1 => if c = true then .ok true s1 else g ρ s1
noncomputable def fNotT (f : FT) : FT := fun ρ s => (f ρ s).bind fun c s1 => .ok (!c) s1
theorem ref_and {K : PySem.W.Frag} {t u : TT} {f g : FT} (h1 : RefT K t f) (h2 : RefT K u g) : RefT K (tAnd t u) (fAndT f g) := by
 intro as σ H ρ s Q rl en h
 refine h1 as σ H ρ s _ rl en (Dn.bind h fun c s1 as1 H1 b st1 rl1 r1 q1 => ?_)
 have e1 : b = c := r1
 subst e1
 cases b with
 | true => rw [if_pos rfl] at q1 ⊢; exact h2 as1 σ H1 ρ s1 Q rl1 (en.mono st1) q1
 | false => rw [if_neg Bool.false_ne_true] at q1 ⊢; exact Dn.now q1 rl1 rfl
theorem ref_or {K : PySem.W.Frag} {t u : TT} {f g : FT} (h1 : RefT K t f) (h2 : RefT K u g) : RefT K (tOr t u) (fOrT f g) := by
 intro as σ H ρ s Q rl en h
 refine h1 as σ H ρ s _ rl en (Dn.bind h fun c s1 as1 H1 b st1 rl1 r1 q1 => ?_)
 have e1 : b = c := r1
 subst e1
 cases b with
 | false => rw [if_neg Bool.false_ne_true] at q1 ⊢; exact h2 as1 σ H1 ρ s1 Q rl1 (en.mono st1) q1
 | true => rw [if_pos rfl] at q1 ⊢; exact Dn.now q1 rl1 rfl
theorem ref_not {K : PySem.W.Frag} {t : TT} {f : FT} (h1 : RefT K t f) : RefT K (tNot t) (fNotT f) := by
 intro as σ H ρ s Q rl en h
 refine h1 as σ H ρ s _ rl en (Dn.bind h fun c s1 as1 H1 b st1 rl1 r1 q1 => ?_)
 have e1 : b = c := r1
 subst e1
 exact Dn.now q1 rl1 rfl
theorem RW.rt {e : Expr} {f : FT} (h : RW X e f) : RT X e f := let ⟨t, p, r⟩ := h.ex; ⟨t, p.pt, r⟩
theorem rw_and1 {f : FT} (h : RT X a f) : RW X (.BoolOp .And [a] pos) f := let ⟨t, p, r⟩ := h.ex; ⟨t, pw_and1 p, r⟩
theorem rw_or1 {f : FT} (h : RT X a f) : RW X (.BoolOp .Or [a] pos) f := let ⟨t, p, r⟩ := h.ex; ⟨t, pw_or1 p, r⟩
theorem rw_and {f g : FT} {rest : List Expr} (h : RT X a f) (k : RW X (.BoolOp .And (b :: rest) pos) g) : RW X (.BoolOp .And (a :: b :: rest) pos) (fAndT f g) := let ⟨t, p, r⟩ := h.ex; let ⟨t', p', r'⟩ := k.ex; ⟨_, pw_and p p', ref_and r r'⟩
theorem rw_or {f g : FT} {rest : List Expr} (h : RT X a f) (k : RW X (.BoolOp .Or (b :: rest) pos) g) : RW X (.BoolOp .Or (a :: b :: rest) pos) (fOrT f g) := let ⟨t, p, r⟩ := h.ex; let ⟨t', p', r'⟩ := k.ex; ⟨_, pw_or p p', ref_or r r'⟩
theorem rt_not {f : FT} (h : RT X a f) : RT X (.UnaryOp .Not a pos) (fNotT f) := let ⟨t, p, r⟩ := h.ex; ⟨_, pt_not p, ref_not r⟩
noncomputable def fAnd (fa fb : FE) : FE := fun ρ s => (fa ρ s).bind fun d s1 => match d with
 | .bl true => fb ρ s1
 | .bl false => .ok (.bl false) s1
 | _ => .bad
noncomputable def fOr (fa fb : FE) : FE := fun ρ s => (fa ρ s).bind fun d s1 => match d with
 | .bl false => fb ρ s1
 | .bl true => .ok (.bl true) s1
 | _ => .bad
theorem re_one {op} (h : RE X a fa) : RE X (.BoolOp op [a] pos) fa := let ⟨t, p, r⟩ := h.ex; ⟨_, pe_one p, r⟩
theorem re_and {rest : List Expr} (h : RE X a fa) (k : RE X (.BoolOp .And (b :: rest) pos) fb) : RE X (.BoolOp .And (a :: b :: rest) pos) (fAnd fa fb) := by
 obtain ⟨ta, pa, ra⟩ := h.ex
 obtain ⟨tb, pb, rb⟩ := k.ex
 refine ⟨_, pe_and pa pb, fun as σ H ρ s Q rl en h => ?_⟩
 refine ra as σ H ρ s _ rl en (Dn.bind h fun d1 s1 as1 H1 x st1 rl1 r1 h1 => ?_)
 cases r1 with
 | da t =>
  cases t with
  | bl k =>
   refine ⟨k, rfl, ?_⟩
   cases k with
   | false => rw [if_neg Bool.false_ne_true]; exact Dn.now h1 rl1 (.da (.bl false))
   | true => rw [if_pos rfl]; exact rb as1 σ H1 ρ s1 Q rl1 (en.mono st1) h1
  | _ => exact h1.elim
 | _ => exact h1.elim
theorem re_or {rest : List Expr} (h : RE X a fa) (k : RE X (.BoolOp .Or (b :: rest) pos) fb) : RE X (.BoolOp .Or (a :: b :: rest) pos) (fOr fa fb) := by
 obtain ⟨ta, pa, ra⟩ := h.ex
 obtain ⟨tb, pb, rb⟩ := k.ex
 refine ⟨_, pe_or pa pb, fun as σ H ρ s Q rl en h => ?_⟩
 refine ra as σ H ρ s _ rl en (Dn.bind h fun d1 s1 as1 H1 x st1 rl1 r1 h1 => ?_)
 cases r1 with
 | da t =>
  cases t with
  | bl k =>
   refine ⟨k, rfl, ?_⟩
   cases k with
   | true => rw [if_pos rfl]; exact Dn.now h1 rl1 (.da (.bl true))
   | false => rw [if_neg Bool.false_ne_true]; exact rb as1 σ H1 ρ s1 Q rl1 (en.mono st1) h1
  | _ => exact h1.elim
 | _ => exact h1.elim
noncomputable def fIf (c : FT) (fa fb : FE) : FE := fun ρ s => (c ρ s).bind fun k s1 => if k = true then fa ρ s1 else fb ρ s1
theorem re_if {c : Expr} {fc : FT} (hc : RT X c fc) (ha : RE X a fa) (hb : RE X b fb) : RE X (.IfExp c a b pos) (fIf fc fa fb) := by
 obtain ⟨tc, pc, rc⟩ := hc.ex
 obtain ⟨ta, pa, ra⟩ := ha.ex
 obtain ⟨tb, pb, rb⟩ := hb.ex
 refine ⟨_, pe_ifExp pc pa pb, fun as σ H ρ s Q rl en h => ?_⟩
 refine rc as σ H ρ s _ rl en (Dn.bind h fun d1 s1 as1 H1 x st1 rl1 r1 h1 => ?_)
 have e1 : x = d1 := r1
 subst e1
 cases x with
 | true => rw [if_pos rfl] at h1 ⊢; exact ra as1 σ H1 ρ s1 Q rl1 (en.mono st1) h1
 | false => rw [if_neg Bool.false_ne_true] at h1 ⊢; exact rb as1 σ H1 ρ s1 Q rl1 (en.mono st1) h1
noncomputable def fNil : FA := fun _ s => .ok [] s
noncomputable def fCons (f : FE) (g : FA) : FA := fun ρ s => (f ρ s).bind fun x s1 => (g ρ s1).bind fun xs s2 => .ok (x :: xs) s2
noncomputable def fVs (ds : List D) : FA := fun _ s => .ok ds s
theorem ra_nil : RA X [] fNil := ⟨_, pa_nil, fun as σ H ρ s Q rl en h => Dn.now h rl .nil⟩
theorem ra_cons {e : Expr} {es : List Expr} {f : FE} {g : FA} (h : RE X e f) (k : RA X es g) (hs : starEach (e :: es) X.env = (false, eval e X.env) :: starEach es X.env := by rfl) : RA X (e :: es) (fCons f g) := by
 obtain ⟨t, p, r⟩ := h.ex
 obtain ⟨t', p', r'⟩ := k.ex
 refine ⟨_, pa_cons p p' hs, fun as σ H ρ s Q rl en h => ?_⟩
 refine r as σ H ρ s _ rl en (Dn.bind h fun d1 s1 as1 H1 x st1 rl1 r1 h1 => ?_)
 refine r' as1 σ H1 ρ s1 _ rl1 (en.mono st1) (Dn.bind h1 fun d2 s2 as2 H2 xs st2 rl2 r2 h2 => ?_)
 exact Dn.now h2 rl2 (.cons (r1.mono st2) r2)
noncomputable def conD : Const -> Option PyData
 | .str x => some (.str x)
 | .int i => some (.int i)
 | .bool b => some (.bool b)
 | .none => some .none
 | _ => none
noncomputable def consD : List Expr -> Option (List PyData)
 | [] => some []
 | .Constant c _ _ :: r => match conD c with
  | some v => match consD r with
   | some vs => some (v :: vs)
   | none => none
  | none => none
 | _ => none
noncomputable def pV : PyData -> V
 | .none => .non
 | .bool b => .bl b
 | .int i => .int i
 | .str x => .str x
 | _ => .non
theorem conD_V {c : Const} {d : PyData} (h : conD c = some d) : conV c = some (pV d) /\ ∀ as H, TD as H (pV d) d := by
 cases c <;> simp [conD] at h <;> subst h
 all_goals first
  | exact ⟨rfl, fun _ _ => .str _⟩
  | exact ⟨rfl, fun _ _ => .int _⟩
  | exact ⟨rfl, fun _ _ => .bl _⟩
  | exact ⟨rfl, fun _ _ => .non⟩
theorem consD_V : ∀ {es : List Expr} {ds : List PyData}, consD es = some ds -> conOf es = some (ds.map pV) /\ ∀ as H, TDs as H (ds.map pV) ds
 | [], ds, h => by cases h; exact ⟨rfl, fun _ _ => .nil⟩
 | e :: es, ds, h => by
  cases e with
  | Constant c j pos =>
   simp only [consD] at h
   cases h1 : conD c with
   | none => (rw [h1] at h; cases h)
   | some v =>
    rw [h1] at h
    cases h2 : consD es with
    | none => rw [h2] at h; cases h
    | some ws =>
     rw [h2] at h
     cases h
     obtain ⟨a1, a2⟩ := conD_V h1
     obtain ⟨b1, b2⟩ := consD_V h2
     exact ⟨by simp only [conOf, a1, b1, List.map_cons], fun as H => .cons (a2 as H) (b2 as H)⟩
  | _ => simp [consD] at h
theorem ra_consts {es : List Expr} {ds : List PyData} (h : consD es = some ds) : RA X es (fVs (ds.map D.da)) := by
 obtain ⟨a, b⟩ := consD_V h
 exact ⟨_, pa_consts a, fun as σ H ρ s Q rl en h => Dn.now h rl (b as H).rd⟩
noncomputable def newL (m : Bool) (ds : List D) (s : S) : R D := if m = true then .ok (.ref s.length) (s ++ [.lst ds]) else match pures ds with
 | some xs => .ok (.lst xs) s
 | none => .bad
noncomputable def newT (ds : List D) (s : S) : R D := match pures ds with
 | some xs => .ok (.tup xs) s
 | none => .bad
theorem newL_ok {K : PySem.W.Frag} {as : As} {H H' : Hp} {s : S} {m : Bool} {ds : List D} {xs : List V} {Q : VK} {p : Addr} (h : Dn K (rD K) as H (newL m ds s) Q) (rl : Rel K as H s) (r : RDs K as H xs ds) (n : New H p (.lst xs) H') : Q (.ref p) H' := by
 unfold newL at h
 cases m with
 | true =>
  rw [if_pos rfl] at h
  refine h (.ref p) (as.add p) H' (step_laid n) (rl.laid n ⟨xs, n.at, r.mono (step_laid n)⟩) (.ref (by simp [rl.len]) fun q e => ?_)
  rw [← rl.len] at e
  simp at e
  exact e.symm
 | false =>
  rw [if_neg Bool.false_ne_true] at h
  cases q : pures ds with
  | none => rw [q] at h; exact h.elim
  | some ys =>
   rw [q] at h
   have e := pures_eq q
   subst e
   exact h (.ref p) as H' (step_new n) (rl.new n) (.da (.lst (fun z => rl.has z n.no) n.at (r.td.mono (step_new n))))
theorem newT_ok {K : PySem.W.Frag} {as : As} {H H' : Hp} {s : S} {ds : List D} {xs : List V} {Q : VK} {p : Addr} (h : Dn K (rD K) as H (newT ds s) Q) (rl : Rel K as H s) (r : RDs K as H xs ds) (n : New H p (.tup xs) H') : Q (.ref p) H' := by
 unfold newT at h
 cases q : pures ds with
 | none => rw [q] at h; exact h.elim
 | some ys =>
  rw [q] at h
  have e := pures_eq q
  subst e
  exact h (.ref p) as H' (step_new n) (rl.new n) (.da (.tup (fun z => rl.has z n.no) n.at (r.td.mono (step_new n))))
noncomputable def fLst (m : Bool) (f : FA) : FE := fun ρ s => (f ρ s).bind fun ds s1 => if ds.length <= sizeLine then newL m ds s1 else .bad
noncomputable def fTup (f : FA) : FE := fun ρ s => (f ρ s).bind fun ds s1 => if ds.length <= sizeLine then newT ds s1 else .bad
theorem re_lst {es : List Expr} {f : FA} (m : Bool) (h : RA X es f) : RE X (.List es pos) (fLst m f) := by
 obtain ⟨t, p, r⟩ := h.ex
 refine ⟨_, pe_lstN p, fun as σ H ρ s Q rl en h => ?_⟩
 refine r as σ H ρ s _ rl en (Dn.bind h fun ds s1 as1 H1 xs st1 rl1 r1 h1 => ?_)
 split at h1
 ·rename_i hz
  exact ⟨by rw [r1.length]; exact hz, fun p H' n => newL_ok h1 rl1 r1 n⟩
 ·exact h1.elim
theorem re_tup {es : List Expr} {f : FA} {x1 : Nat} (h : RA X es f) : RE X (.Tuple es x1 pos) (fTup f) := by
 obtain ⟨t, p, r⟩ := h.ex
 refine ⟨_, pe_tupN p, fun as σ H ρ s Q rl en h => ?_⟩
 refine r as σ H ρ s _ rl en (Dn.bind h fun ds s1 as1 H1 xs st1 rl1 r1 h1 => ?_)
 split at h1
 ·rename_i hz
  exact ⟨by rw [r1.length]; exact hz, fun p H' n => newT_ok h1 rl1 r1 n⟩
 ·exact h1.elim
end
end PF
namespace L2
open PySem PySem.Spec PyProof.Rows
section
variable {prog : Program} {w : World} {A : Around} {E : Value -> Shared -> Prop} {s : Shared}
theorem draw_list {it t : Addr} {items : Array Value} (hne : t ≠ it) : ∀ (n i : Nat) (s : Shared) (Q : List Value -> Shared -> Prop), s.heap.IsListIter it t i -> s.heap.IsList t items -> i + n <= items.size ->
  (∀ h', h'.IsListIter it t (i + n) -> Heap.SameBut it s.heap h' -> Q ((items.toList.drop i).take n) { s with heap := h' }) -> wpAny (model prog w) A (draw (.ref it) n) Q E s
 | 0, i, s, Q, hit, _, _, hQ => by --
  show wpAny _ _ (pure []) Q E s --
  (exact wpAny_pure (by simpa using hQ s.heap hit (Heap.SameBut.refl ..)))
 | n + 1, i, s, Q, hit, ht, hle, hQ => by --
  (have hlt : i < items.size := by omega)
  show wpAny _ _ (pyNext (.ref it) >>= _) Q E s --
  refine wpAny_bind (wpAny_pyNext_list_item hit ht (x := items[i]) (by simp [hlt]) fun h₁ hit₁ hs₁ => ?_)
  have ht₁ : h₁.IsList t items := by
   obtain ⟨o, ho, c⟩ := ht
   exact ⟨o, hs₁.extBut t o hne ho, c⟩
  refine wpAny_bind (wpAny_holding (draw_list hne n (i + 1) _ _ hit₁ ht₁ (by omega) fun h₂ hit₂ hs₂ => wpAny_pure ?_))
  (have hd : items.toList.drop i = items[i] :: items.toList.drop (i + 1) := by simp [List.drop_eq_getElem_cons, hlt])
  (have := hQ h₂ (by rw [show i + (n + 1) = i + 1 + n by omega]; exact hit₂) (hs₁.trans hs₂))
  (rw [hd, List.take_succ_cons] at this)
  exact this
theorem unpackItems_list {t : Addr} {items : Array Value} {Q : List Value -> Shared -> Prop} (hh : A.handled = none) (ht : s.heap.IsList t items)
  (hQ : ∀ h', Heap.ExtBut s.heap.objs.size s.heap h' -> Q items.toList { s with heap := h' }) : wpAny (model prog w) A (unpackItems (.ref t) items.size none) Q E s := by
 (have hlt : t ≠ s.heap.objs.size := by obtain ⟨o, ho, _⟩ := ht; exact Nat.ne_of_lt (Heap.lt_size ho))
 have up : ∀ h' : Heap, Heap.ExtBut s.heap.objs.size s.heap h' -> h'.IsList t items := fun h' x => by
  obtain ⟨o, ho, c⟩ := ht
  exact ⟨o, x t o hlt ho, c⟩
 unfold unpackItems
 refine wpAny_bind ?_
 unfold notIterableAtAll
 refine wpAny_bind (wpAny_specialOf ht.typeIs slot_list_iter.lookup ?_)
 refine wpAny_pure ?_
 (simp only [Bool.false_eq_true, if_false])
 refine wpAny_bind (wpAny_holding (wpAny_pyIter_list ht ?_))
 refine wpAny_bind (wpAny_holding (draw_list hlt items.size 0 _ _ ⟨_, Heap.get?_push_size _ rfl, rfl, rfl⟩ (up _ fun b o hb e => Heap.get?_push_of_some _ e) (by omega) fun h₁ hit₁ hs₁ => ?_))
 have hall : List.take items.size (List.drop 0 items.toList) = items.toList := by --
  (rw [List.drop_zero]; exact List.take_of_length_le (by simp))
 rw [hall]
 rw [if_neg (by simp)]
 have x₁ : Heap.ExtBut s.heap.objs.size s.heap h₁ := fun b o hb e => hs₁.extBut b o hb (Heap.get?_push_of_some _ e)
 refine wpAny_bind (wpAny_holding (wpAny_pyNext_list_end hh (by simpa using hit₁) (up _ x₁) (by simp) fun h₂ he₂ => ?_))
 (simp only [Option.isSome_none, Bool.false_eq_true, if_false])
 refine wpAny_pure (hQ h₂ fun b o hb e => he₂ b o hb (x₁ b o hb e))
theorem assign_Tuple_list {env : Env} {elts : List Expr} {x1} {pos : Pos} {t : Addr} {items : Array Value} {Q : Unit -> Shared -> Prop} (hh : A.handled = none) (ht : s.heap.IsList t items)
  (hn : (assignEach elts env).length = items.size) (hstar : (assignEach elts env).findIdx? (·.1) = none) --
  (h : ∀ h', Heap.ExtBut s.heap.objs.size s.heap h' -> wpAny (model prog w) A (assignInOrder ((assignEach elts env).map (·.2)) items.toList) Q E { s with heap := h' }) :
  wpAny (model prog w) A (assign (.Tuple elts x1 pos) env (.ref t)) Q E s := by --
 rw [assign_Tuple]
 refine wpAny_bind (wpAny_standAt ?_)
 unfold unpack
 rw [hn, hstar]
 exact wpAny_bind (wpAny_holding (unpackItems_list hh ht h))
end
section
variable {X : Cx} {pos : Pos}
noncomputable def gTupX (K : PySem.W.Frag) (n : Nat) (t : TGs) : TG := fun v σ H Q => ∃ a xs, v = .ref a /\ (SqT K H a xs \/ SqL K H a xs) /\ xs.length = n /\ t xs σ H Q
theorem pg_tupX {es : List Expr} {k : Nat} {t : TGs} {n : Nat} (hc : X.calm = true) (h : PGs X es t)
  (hn : (assignEach es X.env).length = n := by rfl) (hst : (assignEach es X.env).findIdx? (·.1) = none := by rfl) : PG X (.Tuple es k pos) (gTupX X.K n t) := by
 intro pins s σ H v u Q I r hw
 obtain ⟨a, xs, e1, hq, hl, hw⟩ := hw
 rcases hq with hq | hq
 ·exact pg_tup hc h hn hst pins s σ H v u Q I r ⟨a, xs, e1, hq, hl, hw⟩
 ·subst e1
  cases r
  obtain ⟨its, rv, ⟨o, m, ho, hcl, _, hd⟩, hz⟩ := I.list hq
  refine assign_Tuple_list (I.ok.hd hc) ⟨o, ho, hcl, m, hd⟩ (by simp [hn, ← hl, rv.length]) hst fun h' hx => ?_
  have I1 : Inv X pins σ H { s with heap := h' } := I.kept (t' := s.toks) fun b o e => hx b o (Nat.ne_of_lt (Heap.lt_size e)) e
  exact h pins _ σ H xs _ Q I1 (by simpa using rv) hw
end
end L2
namespace PF
open PySem PySem.Spec
open L2
noncomputable def tOf (K : PySem.W.Frag) (f : FE) : TE := fun σ H Q => ∃ as ρ s, Rel K as H s /\ Envs K as H ρ σ /\ Dn K (rD K) as H (f ρ s) Q
noncomputable def tOfT (K : PySem.W.Frag) (f : FT) : TT := fun σ H Q => ∃ as ρ s, Rel K as H s /\ Envs K as H ρ σ /\ Dn K rB as H (f ρ s) Q
theorem RE.pe {X : Cx} {e : Expr} {f : FE} (h : RE X e f) : PE X e (tOf X.K f) := by
 obtain ⟨t, p, r⟩ := h.ex
 exact p.weak fun σ H Q ⟨as, ρ, s, a, b, c⟩ => r as σ H ρ s Q a b c
theorem RT.pt {X : Cx} {e : Expr} {f : FT} (h : RT X e f) : PT X e (tOfT X.K f) := by
 obtain ⟨t, p, r⟩ := h.ex
 exact ⟨fun pins s σ H Q I ⟨as, ρ, s', a, b, c⟩ => p pins s σ H Q I (r as σ H ρ s' Q a b c)⟩
inductive Tg where
 | nm (i : Nat) | t2 (a b : Tg) | t3 (a b c : Tg)
noncomputable def gOf (K : PySem.W.Frag) : Tg -> TG
 | .nm i => gName i
 | .t2 a b => gTupX K 2 (gCons (gOf K a) (gCons (gOf K b) gNil))
 | .t3 a b c => gTupX K 3 (gCons (gOf K a) (gCons (gOf K b) (gCons (gOf K c) gNil)))
noncomputable def tupD : D -> Option (List D)
 | .tup ds => some (ds.map D.da)
 | .lst ds => some (ds.map D.da)
 | .con ds => some (ds.map D.da)
 | _ => none
noncomputable def setD : Tg -> D -> En -> Option En
 | .nm i, d, ρ => some (ρ.set i (some d))
 | .t2 a b, d, ρ => match tupD d with
  | some [x, y] => match setD a x ρ with
   | some ρ1 => setD b y ρ1
   | none => none
  | _ => none
 | .t3 a b c, d, ρ => match tupD d with
  | some [x, y, z] => match setD a x ρ with
   | some ρ1 => match setD b y ρ1 with
    | some ρ2 => setD c z ρ2
    | none => none
   | none => none
  | _ => none
noncomputable def tgLt (k : Nat) : Tg -> Bool
 | .nm i => decide (i < k)
 | .t2 a b => tgLt k a && tgLt k b
 | .t3 a b c => tgLt k a && tgLt k b && tgLt k c
noncomputable def Fra (k : Nat) (σ σ' : St) : Prop := ∀ vs cap : St, vs.length = k -> σ = vs ++ cap -> ∃ vs' : St, vs'.length = k /\ σ' = vs' ++ cap
theorem Fra.trans {k : Nat} {a b c : St} (h1 : Fra k a b) (h2 : Fra k b c) : Fra k a c := fun vs cap h e => by
 obtain ⟨v1, l1, e1⟩ := h1 vs cap h e
 exact h2 v1 cap l1 e1
theorem tupD_sq {K : PySem.W.Frag} {as : As} {H : Hp} {v : V} {d : D} {ds : List D} (r : RD K as H v d) (h : tupD d = some ds) : ∃ p xs, v = .ref p /\ (SqT K H p xs \/ SqL K H p xs) /\ RDs K as H xs ds := by
 cases r with
 | da t =>
  cases t with
  | tup n e r => cases h; exact ⟨_, _, rfl, .inl (SqT.of e), r.rd⟩
  | lst n e r => cases h; exact ⟨_, _, rfl, .inr (SqL.of e), r.rd⟩
  | _ => cases h
 | con q r => cases h; exact ⟨_, _, rfl, .inl (q H), r.rd⟩
 | _ => cases h
theorem ref_tg {K : PySem.W.Frag} : ∀ (tg : Tg) {as : As} {σ : St} {H : Hp} {ρ ρ' : En} {v : V} {d : D} {Q : St -> Hp -> Prop}, Envs K as H ρ σ -> RD K as H v d -> setD tg d ρ = some ρ' ->
  (∀ σ', Envs K as H ρ' σ' -> (∀ k, tgLt k tg = true -> Fra k σ σ') -> Q σ' H) -> gOf K tg v σ H Q
 | .nm i, as, σ, H, ρ, ρ', v, d, Q, en, r, e, h => by
  cases e
  refine h (σ.set i (some v)) (en.set i r) fun k hk vs cap hl z => ?_
  have hi : i < k := of_decide_eq_true hk
  subst z
  exact ⟨vs.set i (some v), by simpa using hl, by rw [List.set_append_left _ _ (by omega)]⟩
 | .t2 a b, as, σ, H, ρ, ρ', v, d, Q, en, r, e, h => by
  unfold setD at e
  split at e
  ·rename_i x y q
   obtain ⟨p, xs, rfl, sq, rs⟩ := tupD_sq r q
   cases rs with
   | cons r1 rs =>
   cases rs with
   | cons r2 rs =>
   cases rs
   split at e
   ·rename_i ρ1 q1
    refine ⟨p, _, rfl, sq, rfl, _, _, rfl, ref_tg a en r1 q1 fun σ1 en1 f1 => ⟨_, _, rfl, ref_tg b en1 r2 e fun σ2 en2 f2 => ⟨rfl, h σ2 en2 fun k hk => ?_⟩⟩⟩
    simp only [tgLt, Bool.and_eq_true] at hk
    exact (f1 k hk.1).trans (f2 k hk.2)
   ·cases e
  ·cases e
 | .t3 a b c, as, σ, H, ρ, ρ', v, d, Q, en, r, e, h => by
  unfold setD at e
  split at e
  ·rename_i x y z q
   obtain ⟨p, xs, rfl, sq, rs⟩ := tupD_sq r q
   cases rs with
   | cons r1 rs =>
   cases rs with
   | cons r2 rs =>
   cases rs with
   | cons r3 rs =>
   cases rs
   split at e
   ·rename_i ρ1 q1
    split at e
    ·rename_i ρ2 q2
     refine ⟨p, _, rfl, sq, rfl, _, _, rfl, ref_tg a en r1 q1 fun σ1 en1 f1 => ⟨_, _, rfl, ref_tg b en1 r2 q2 fun σ2 en2 f2 => ⟨_, _, rfl, ref_tg c en2 r3 e fun σ3 en3 f3 => ⟨rfl, h σ3 en3 fun k hk => ?_⟩⟩⟩⟩
     simp only [tgLt, Bool.and_eq_true] at hk
     exact ((f1 k hk.1.1).trans (f2 k hk.1.2)).trans (f3 k hk.2)
    ·cases e
   ·cases e
  ·cases e
noncomputable abbrev Wk := List D × Option Nat
noncomputable abbrev FI := En -> S -> R Wk
noncomputable def SrcOk (p : Wk) (s : S) : Prop := match p.2 with
 | none => True
 | some n => s[n]? = some (.lst p.1)
open Classical in
noncomputable def chk {α : Type} (p : Wk) (s : S) (k : R α) : R α := if SrcOk p s then k else .bad
theorem chk_none {α : Type} {ds : List D} {s : S} {k : R α} : chk (ds, none) s k = k := if_pos trivial
theorem chk_pos {α : Type} {p : Wk} {s : S} {k : R α} (h : SrcOk p s) : chk p s k = k := if_pos h
theorem Dn.chk {α β : Type} {K : PySem.W.Frag} {rel : As -> Hp -> β -> α -> Prop} {as : As} {H : Hp} {p : Wk} {s : S} {r : R α} {Q : β -> Hp -> Prop} (h : Dn K rel as H (chk p s r) Q) : SrcOk p s /\ Dn K rel as H r Q := by
 by_cases c : SrcOk p s
 ·rw [chk_pos c] at h; exact ⟨c, h⟩
 ·have e : PF.chk p s r = .bad := if_neg c
  rw [e] at h; exact h.elim
noncomputable def ItOk (K : PySem.W.Frag) (as : As) (H : Hp) (J : It) (p : Wk) : Prop := ∀ as2 H2 s2, Step0 as H as2 H2 -> Rel K as2 H2 s2 -> SrcOk p s2 -> ∀ i : Nat,
 (p.1.length <= i -> J.stop i H2) /\ ∀ d, p.1[i]? = some d -> J.go i H2 /\ ∀ x H3, J.yld i H2 x H3 -> Step as2 H2 as2 H3 /\ Rel K as2 H3 s2 /\ RD K as2 H3 x d
noncomputable def RefI (K : PySem.W.Frag) (wi : TI) (f : FI) : Prop := ∀ as σ H ρ s Q, Rel K as H s -> Envs K as H ρ σ -> Dn K (ItOk K) as H (f ρ s) Q -> wi σ H Q
structure RI (X : Cx) (tg iter : Expr) (f : FI) : Prop where
 ex : ∃ t, PI X tg iter t /\ RefI X.K t f
structure RG (X : Cx) (tg : Expr) (g : Tg) : Prop where
 pg : PG X tg (gOf X.K g)
section
variable {X : Cx} {a b : Expr} {fa fb : FE} {pos : Pos}
theorem rg_name {i : Nat} {x : Str} (hN : X.N.Nodup) (hi : X.N[i]? = some x) (hx : Loc X.env.scope x) (hf : X.fn x = true \/ X.env.scope.names.lookup x = some .local := by first | exact .inl rfl | exact .inr rfl | assumption) : RG X (.Name x pos) (.nm i) := ⟨pg_name hN hi hx hf⟩
theorem rg_t2 {e1 e2 : Expr} {g1 g2 : Tg} {k : Nat} (hc : X.calm = true) (h1 : RG X e1 g1) (h2 : RG X e2 g2) (hn : (assignEach [e1, e2] X.env).length = 2 := by rfl) (hst : (assignEach [e1, e2] X.env).findIdx? (·.1) = none := by rfl)
  (s1 : (assignEach [e1, e2] X.env).map (·.2) = assign e1 X.env :: (assignEach [e2] X.env).map (·.2) := by rfl) (s2 : (assignEach [e2] X.env).map (·.2) = assign e2 X.env :: (assignEach [] X.env).map (·.2) := by rfl) : RG X (.Tuple [e1, e2] k pos) (.t2 g1 g2) :=
 ⟨pg_tupX hc (pgs_cons h1.pg (pgs_cons h2.pg pgs_nil s2) s1) hn hst⟩
noncomputable def fRet (f : FE) : FS := fun ρ s => (f ρ s).bind fun d s1 => .ok (.rt d) s1
noncomputable def fDrop (f : FE) : FS := fun ρ s => (f ρ s).bind fun _ s1 => .ok (.nx ρ) s1
noncomputable def fNext : FS := fun ρ s => .ok (.nx ρ) s
noncomputable def fSet (i : Nat) (f : FE) : FS := fun ρ s => (f ρ s).bind fun d s1 => .ok (.nx (ρ.set i (some d))) s1
noncomputable def fAsg (g : Tg) (f : FE) : FS := fun ρ s => (f ρ s).bind fun d s1 => match setD g d ρ with
 | some ρ1 => .ok (.nx ρ1) s1
 | none => .bad
noncomputable def fIfS (c : FT) (f g : FS) : FS := fun ρ s => (c ρ s).bind fun k s1 => if k = true then f ρ s1 else g ρ s1
noncomputable def fSeq (f g : FS) : FS := fun ρ s => (f ρ s).bind fun fl s1 => match fl with
 | .nx ρ1 => g ρ1 s1
 | fl => .ok fl s1
theorem rs_ret (h : RE X a fa) : RS X (.Return (some a) pos) (fRet fa) := by
 obtain ⟨t, p, r⟩ := h.ex
 refine ⟨_, ps_ret p, fun as σ H ρ s D rl en h => ?_⟩
 exact r as σ H ρ s _ rl en (Dn.bind h fun d s1 as1 H1 v st1 rl1 r1 h1 => Dn.now (b := FV.rt v) h1 rl1 (.rt r1))
theorem rs_expr (h : RE X a fa) (hs : swapsWith a none pos.line X.env = pure false := by rfl) : RS X (.Expr a pos) (fDrop fa) := by
 obtain ⟨t, p, r⟩ := h.ex
 refine ⟨_, ps_expr p hs, fun as σ H ρ s D rl en h => ?_⟩
 exact r as σ H ρ s _ rl en (Dn.bind h fun d s1 as1 H1 v st1 rl1 r1 h1 => Dn.now (b := FV.nx σ) h1 rl1 (.nx (en.mono st1)))
theorem rs_set {i : Nat} {x : Str} {pos' : Pos} (hN : X.N.Nodup) (hi : X.N[i]? = some x) (hx : Loc X.env.scope x) (h : RE X a fa) (hs : swapsWith a (some (.Name x pos')) pos.line X.env = pure false := by rfl) (hf : X.fn x = true \/ X.env.scope.names.lookup x = some .local := by first | exact .inl rfl | exact .inr rfl | assumption) : RS X (.Assign [.Name x pos'] a pos) (fSet i fa) := by
 obtain ⟨t, p, r⟩ := h.ex
 refine ⟨_, ps_set hN hi hx p hs hf, fun as σ H ρ s D rl en h => ?_⟩
 exact r as σ H ρ s _ rl en (Dn.bind h fun d s1 as1 H1 v st1 rl1 r1 h1 => Dn.now (b := FV.nx (σ.set i (some v))) h1 rl1 (.nx ((en.mono st1).set i r1)))
theorem rs_asg {tg : Expr} {g : Tg} (h : RE X a fa) (hg : RG X tg g) (hs : swapsWithSole [tg] a pos.line X.env = pure false := by rfl) (hw : swappedStores [tg] a X.env = pure none := by rfl) (h1 : (assignEach [tg] X.env).map (·.2) = [assign tg X.env] := by rfl) : RS X (.Assign [tg] a pos) (fAsg g fa) := by
 obtain ⟨t, p, r⟩ := h.ex
 refine ⟨_, ps_asg p hg.pg hs hw h1, fun as σ H ρ s D rl en h => ?_⟩
 refine r as σ H ρ s _ rl en (Dn.bind h fun d s1 as1 H1 v st1 rl1 r1 h1 => ?_)
 split at h1
 ·rename_i ρ1 q
  exact ref_tg g (en.mono st1) r1 q fun σ' en' _ => Dn.now (b := FV.nx σ') h1 rl1 (.nx en')
 ·exact h1.elim
theorem rs_if {c : Expr} {st su : List Stmt} {fc : FT} {f g : FS} (hc : RT X c fc) (h1 : RSs X st f) (h2 : RSs X su g) : RS X (.If c st su pos) (fIfS fc f g) := by
 obtain ⟨tc, pc, rc⟩ := hc.ex
 obtain ⟨t, p, r⟩ := h1.ex
 obtain ⟨t', p', r'⟩ := h2.ex
 refine ⟨_, ps_if pc p p', fun as σ H ρ s D rl en h => ?_⟩
 refine rc as σ H ρ s _ rl en (Dn.bind h fun k s1 as1 H1 x st1 rl1 r1 h1 => ?_)
 have e1 : x = k := r1
 subst e1
 cases x with
 | true => rw [if_pos rfl] at h1 ⊢; exact r as1 σ H1 ρ s1 D rl1 (en.mono st1) h1
 | false => rw [if_neg Bool.false_ne_true] at h1 ⊢; exact r' as1 σ H1 ρ s1 D rl1 (en.mono st1) h1
theorem rss_nil : RSs X [] fNext := ⟨_, pss_nil, fun as σ H ρ s D rl en h => Dn.now (b := FV.nx σ) h rl (.nx en)⟩
theorem rss_one {st : Stmt} {f : FS} (h : RS X st f) : RSs X [st] f := let ⟨t, p, r⟩ := h.ex; ⟨_, pss_one p, r⟩
theorem ref_seq {K : PySem.W.Frag} {t u : TS} {f g : FS} (h1 : RefS K t f) (h2 : RefS K u g) : RefS K (tSeq t u) (fSeq f g) := by
 intro as σ H ρ s D rl en h
 refine h1 as σ H ρ s _ rl en (Dn.bind h fun fl s1 as1 H1 fv st1 rl1 r1 h1 => ?_)
 cases r1 with
 | nx e => exact h2 as1 _ H1 _ s1 D rl1 e h1
 | rt e => exact (show endF D (.rt _) H1 from Dn.now (K := K) (rel := rF K) (Q := endF D) (b := FV.rt _) h1 rl1 (rF.rt e))
 | bk e => exact (show endF D (.bk _) H1 from Dn.now (K := K) (rel := rF K) (Q := endF D) (b := FV.bk _) h1 rl1 (rF.bk e))
 | ct e => exact (show endF D (.ct _) H1 from Dn.now (K := K) (rel := rF K) (Q := endF D) (b := FV.ct _) h1 rl1 (rF.ct e))
theorem rss_cons {st : Stmt} {rest : List Stmt} {f g : FS} (h : RS X st f) (k : RSs X rest g) : RSs X (st :: rest) (fSeq f g) := by
 obtain ⟨t, p, r⟩ := h.ex
 obtain ⟨t', p', r'⟩ := k.ex
 exact ⟨_, pss_cons p p', ref_seq r r'⟩
noncomputable def loopF (g : Tg) (fb : FS) (p : Wk) : List D -> En -> S -> R Fl
 | [], ρ, s => .ok (.nx ρ) s
 | d :: r, ρ, s => match setD g d ρ with
  | none => .bad
  | some ρ1 => (fb ρ1 s).bind fun fl s2 => match fl with
   | .nx ρ2 => chk p s2 (loopF g fb p r ρ2 s2)
   | .ct ρ2 => chk p s2 (loopF g fb p r ρ2 s2)
   | .bk ρ2 => .ok (.nx ρ2) s2
   | .rt d => .ok (.rt d) s2
noncomputable def fFor (fi : FI) (g : Tg) (fb : FS) : FS := fun ρ s => (fi ρ s).bind fun p s1 => chk p s1 (loopF g fb p p.1 ρ s1)
theorem rs_for {tg iter : Expr} {body : List Stmt} {fi : FI} {g : Tg} {fb : FS} (hc : X.calm = true) (hi : RI X tg iter fi) (hg : RG X tg g) (hb : RSs X body fb) (hp : PassesOwn (model X.prog X.w) X.A X.env X.xe := by exact PassesOwn.never)
  (hs : ∀ x, foldedSetIterable iter X.env x = pure x := by intro _; rfl) : RS X (.For tg iter body [] pos) (fFor fi g fb) := by
 obtain ⟨wi, pi, ri⟩ := hi.ex
 obtain ⟨tb, pb, rb⟩ := hb.ex
 refine ⟨_, ps_for hp hc pi hg.pg pb hs, fun as σ H ρ s D rl en h => ?_⟩
 refine ri as σ H ρ s _ rl en (Dn.bind h fun p s1 as1 H1 J st1 rl1 r1 h1 => ?_)
 obtain ⟨so, h1⟩ := Dn.chk h1
 refine ⟨fun i m σ' H' => ∃ as2 ρ2 s2, m = p.1.length - i /\ i <= p.1.length /\ Step as1 H1 as2 H' /\ Rel X.K as2 H' s2 /\ Envs X.K as2 H' ρ2 σ' /\ SrcOk p s2 /\ Dn X.K (rF X.K) as2 H' (loopF g fb p (p.1.drop i) ρ2 s2) (endF D),
  ⟨_, as1, ρ, s1, rfl, Nat.zero_le _, Step.refl _ _, rl1, en.mono st1, so, h1⟩, ?_⟩
 rintro i m σ' H' ⟨as2, ρ2, s2, hm, hi, st2, rl2, en2, so2, h2⟩
 have tn := r1 as2 H' s2 st2.toStep0 rl2 so2 i
 by_cases hl : i < p.1.length
 ·obtain ⟨d, hd⟩ : ∃ d, p.1[i]? = some d := ⟨_, List.getElem?_eq_getElem hl⟩
  have hdr : p.1.drop i = d :: p.1.drop (i + 1) := by
   rw [List.drop_eq_getElem_cons hl]
   rw [List.getElem?_eq_getElem hl] at hd
   cases hd; rfl
  rw [hdr] at h2
  obtain ⟨go, yl⟩ := tn.2 d hd
  unfold loopF at h2
  split at h2
  ·exact h2.elim
  ·rename_i ρ3 q3
   refine .inr ⟨go, fun σ4 H4 => ∃ as4 ρ4 s4, Step as1 H1 as4 H4 /\ Rel X.K as4 H4 s4 /\ Envs X.K as4 H4 ρ4 σ4 /\ SrcOk p s4 /\ Dn X.K (rF X.K) as4 H4 (loopF g fb p (p.1.drop (i + 1)) ρ4 s4) (endF D), ?_, fun x H3 hy => ?_⟩
   ·rintro σ4 H4 ⟨as4, ρ4, s4, a1, a2, a3, a4, a5⟩
    exact ⟨p.1.length - (i + 1), by omega, as4, ρ4, s4, rfl, hl, a1, a2, a3, a4, a5⟩
   ·obtain ⟨st3, rl3, rx⟩ := yl x H3 hy
    refine ref_tg g (en2.mono st3) rx q3 fun σ3 en3 _ => ?_
    refine rb as2 σ3 H3 ρ3 s2 _ rl3 en3 (Dn.bind (Dn.step h2 st3) fun fl s5 as5 H5 fv st5 rl5 r5 h5 => ?_)
    cases r5 with
    | nx e =>
     obtain ⟨so5, h5⟩ := Dn.chk h5
     exact ⟨as5, _, s5, (st2.trans st3).trans st5, rl5, e, so5, h5⟩
    | ct e =>
     obtain ⟨so5, h5⟩ := Dn.chk h5
     exact ⟨as5, _, s5, (st2.trans st3).trans st5, rl5, e, so5, h5⟩
    | rt e => exact (show endF D (.rt _) H5 from Dn.now (K := X.K) (rel := rF X.K) (Q := endF D) (b := FV.rt _) h5 rl5 (rF.rt e))
    | bk e => exact (show endF D (.nx _) H5 from Dn.now (K := X.K) (rel := rF X.K) (Q := endF D) (b := FV.nx _) h5 rl5 (rF.nx e))
 ·refine .inl ⟨tn.1 (Nat.le_of_not_lt hl), ?_⟩
  rw [List.drop_eq_nil_of_le (Nat.le_of_not_lt hl)] at h2
  exact Dn.now (b := FV.nx σ') h2 rl2 (.nx en2)
end
end PF
namespace PF
open PySem PySem.Spec
open L2
noncomputable def gIter (d : D) (s : S) : R Wk := match d with
 | .lst ds => .ok (ds.map D.da, none) s
 | .tup ds => .ok (ds.map D.da, none) s
 | .con ds => .ok (ds.map D.da, none) s
 | .frz ds => .ok (ds.map D.da, none) s
 | .ref n => match s[n]? with
  | some (.lst ds) => .ok (ds, some n) s
  | _ => .bad
 | _ => .bad
noncomputable def fIt (f : FE) : FI := fun ρ s => (f ρ s).bind gIter
section
variable {X : Cx} {tg a b : Expr} {fa fb : FE} {pos : Pos}
noncomputable def iAny (K : PySem.W.Frag) (tl : TE) : TI := fun σ H R => tl σ H fun x H1 => ∃ a, x = .ref a /\ (((∃ xs, SqL K H1 a xs) /\ R (Itl K a) H1) \/ ((∃ xs, SqT K H1 a xs) /\ R (Itt K a) H1))
theorem pi_any {l : Expr} {tl : TE} (hl : PE X l tl) : PI X tg l (iAny X.K tl) := by
 intro pins s σ H R I h
 refine thn (hl pins s σ H _ I h) fun v s1 ⟨x, H1, I1, r1, q1⟩ => ?_
 obtain ⟨a, e, q1⟩ := q1
 subst e
 cases r1
 have fp : ∀ b ∈ [s1.heap.objs.size], FpOk X pins H1 b := fun b hb => by
  have e : b = s1.heap.objs.size := by simpa using hb
  subst e
  exact I1.fpOk (Nat.le_refl _) (I1.hok.fresh (Nat.le_refl _))
 rcases q1 with ⟨⟨xs, hq⟩, q⟩ | ⟨⟨xs, hq⟩, q⟩
 ·obtain ⟨its, rv, p, hz⟩ := I1.list hq
  refine wpAny_pyIter_list p.isList ?_
  exact ⟨s1.heap.objs.size, [s1.heap.objs.size], _, _, H1, rfl, I1.kept (t' := s1.toks) fun b o e => Heap.get?_push_of_some _ e, turn_list a _, ⟨_, Heap.get?_push_size _ rfl, rfl, rfl⟩, fp, q⟩
 ·obtain ⟨its, rv, p, hz⟩ := I1.tuple hq
  refine wpAny_pyIter_tuple (show s1.heap.IsTuple a its.toArray from p) ?_
  exact ⟨s1.heap.objs.size, [s1.heap.objs.size], _, _, H1, rfl, I1.kept (t' := s1.toks) fun b o e => Heap.get?_push_of_some _ e, turn_tuple a _, ⟨_, Heap.get?_push_size _ rfl, rfl, rfl⟩, fp, q⟩
theorem itok_l {K : PySem.W.Frag} {as : As} {H : Hp} {p : Addr} {xs : List V} {w : Wk} (h : ∀ as2 H2 s2, Step0 as H as2 H2 -> Rel K as2 H2 s2 -> SrcOk w s2 -> ∃ ys, SqL K H2 p ys /\ RDs K as2 H2 ys w.1) : ItOk K as H (Itl K p) w := by
 intro as2 H2 s2 st rl so i
 obtain ⟨ys, sq, rs⟩ := h as2 H2 s2 st rl so
 refine ⟨fun hl => ⟨ys, sq, by rw [rs.length]; exact hl⟩, fun d hd => ?_⟩
 obtain ⟨v, hv, r⟩ := rs.get hd
 refine ⟨⟨ys, v, sq, hv⟩, fun x H3 hy => ?_⟩
 obtain ⟨rfl, hx⟩ := hy
 have := hx ys sq
 rw [hv] at this
 cases this
 exact ⟨Step.refl _ _, rl, r⟩
theorem itok_t {K : PySem.W.Frag} {as : As} {H : Hp} {p : Addr} {xs : List V} {w : Wk} (h : ∀ as2 H2 s2, Step0 as H as2 H2 -> Rel K as2 H2 s2 -> SrcOk w s2 -> ∃ ys, SqT K H2 p ys /\ RDs K as2 H2 ys w.1) : ItOk K as H (Itt K p) w := by
 intro as2 H2 s2 st rl so i
 obtain ⟨ys, sq, rs⟩ := h as2 H2 s2 st rl so
 refine ⟨fun hl => ⟨ys, sq, by rw [rs.length]; exact hl⟩, fun d hd => ?_⟩
 obtain ⟨v, hv, r⟩ := rs.get hd
 refine ⟨⟨ys, v, sq, hv⟩, fun x H3 hy => ?_⟩
 obtain ⟨rfl, hx⟩ := hy
 have := hx ys sq
 rw [hv] at this
 cases this
 exact ⟨Step.refl _ _, rl, r⟩
theorem ref_list {K : PySem.W.Frag} {as : As} {H : Hp} {s : S} {p : Addr} {n : Nat} {ds : List D} (rl : Rel K as H s) (hr : ∀ q, as.ix[n]? = some (some q) -> q = p) (e : s[n]? = some (.lst ds)) : as.ix[n]? = some (some p) /\ ∃ xs, H p = some (.lst xs) /\ RDs K as H xs ds := by
 obtain ⟨q, hq⟩ := rl.li n _ e (by intro z; cases z)
 cases hr q hq
 exact ⟨hq, rl.ob n p _ hq e⟩
theorem ri_any (h : RE X a fa) : RI X tg a (fIt fa) := by
 obtain ⟨t, p, r⟩ := h.ex
 refine ⟨_, pi_any p, fun as σ H ρ s Q rl en h => ?_⟩
 refine r as σ H ρ s _ rl en (Dn.bind h fun d s1 as1 H1 v st1 rl1 r1 h1 => ?_)
 cases r1 with
 | da t =>
  cases t with
  | tup n e rs => exact ⟨_, rfl, .inr ⟨⟨_, SqT.of e⟩, Dn.now (Q := Q) h1 rl1 (itok_t (xs := []) fun as2 H2 s2 st rl so => ⟨_, SqT.of (st.keep _ _ n e), (rs.mono0 st).rd⟩)⟩⟩
  | lst n e rs => exact ⟨_, rfl, .inl ⟨⟨_, SqL.of e⟩, Dn.now (Q := Q) h1 rl1 (itok_l (xs := []) fun as2 H2 s2 st rl so => ⟨_, SqL.of (st.keep _ _ n e), (rs.mono0 st).rd⟩)⟩⟩
  | _ => exact h1.elim
 | con q rs => exact ⟨_, rfl, .inr ⟨⟨_, q H1⟩, Dn.now (Q := Q) h1 rl1 (itok_t (xs := []) fun as2 H2 s2 st rl so => ⟨_, q H2, (rs.mono0 st).rd⟩)⟩⟩
 | frz q rs => exact ⟨_, rfl, .inl ⟨⟨_, q as1 H1 (Step.refl _ _).toStep0⟩, Dn.now (Q := Q) h1 rl1 (itok_l (xs := []) fun as2 H2 s2 st rl so => ⟨_, q as2 H2 st, (rs.mono0 st).rd⟩)⟩⟩
 | @ref pp n l hr =>
  have h1 : Dn X.K (ItOk X.K) as1 H1 (match s1[n]? with | some (O.lst ds) => R.ok (ds, some n) s1 | _ => R.bad) Q := h1
  split at h1
  ·rename_i ds e
   obtain ⟨ha, xs, hx, rs⟩ := ref_list rl1 hr e
   refine ⟨_, rfl, .inl ⟨⟨_, SqL.of hx⟩, Dn.now (Q := Q) h1 rl1 (itok_l (xs := []) fun as2 H2 s2 st rl so => ?_)⟩⟩
   have so' : s2[_]? = some (O.lst ds) := so
   obtain ⟨q, hq⟩ := rl.li _ _ so' (by intro z; cases z)
   have e2 := hq
   rcases st.old _ l with z | z
   ·rw [z] at e2
    cases hr q e2
    obtain ⟨ys, hy, rs2⟩ := rl.ob _ _ _ hq so'
    exact ⟨ys, SqL.of hy, rs2⟩
   ·rw [z] at e2; cases e2
  ·exact h1.elim
 | _ => exact h1.elim
noncomputable def rngD (lo : Int) : Nat -> List D
 | 0 => []
 | n + 1 => .int lo :: rngD (lo + 1) n
theorem rng_len : ∀ (n : Nat) (lo : Int), (rngD lo n).length = n
 | 0, _ => rfl
 | n + 1, lo => congrArg (· + 1) (rng_len n (lo + 1))
theorem rng_get : ∀ (n : Nat) (lo : Int) (i : Nat), i < n -> (rngD lo n)[i]? = some (.int (lo + i))
 | n + 1, lo, 0, _ => by simp [rngD]
 | n + 1, lo, i + 1, h => by
  rw [rngD, List.getElem?_cons_succ, rng_get n (lo + 1) i (by omega)]
  have : lo + 1 + (i : Int) = lo + ((i + 1 : Nat) : Int) := by omega
  rw [this]
theorem itok_r {K : PySem.W.Frag} {as : As} {H : Hp} (lo : Int) (n : Nat) : ItOk K as H (Itr lo n) (rngD lo n, none) := by
 intro as2 H2 s2 st rl so i
 refine ⟨fun hl => by rw [rng_len] at hl; exact hl, fun d hd => ?_⟩
 have hl : i < n := by
  have := (List.getElem?_eq_some_iff.mp hd).1
  rw [rng_len] at this; exact this
 rw [rng_get n lo i hl] at hd
 cases hd
 refine ⟨hl, fun x H3 hy => ?_⟩
 obtain ⟨rfl, rfl⟩ := hy
 exact ⟨Step.refl _ _, rl, .da (.int _)⟩
noncomputable def gRng (ds : List D) (s : S) : R Wk := match ds with
 | [.int j] => if -(2 ^ 62) <= j /\ j < 2 ^ 62 then .ok (rngD 0 j.toNat, none) s else .bad
 | _ => .bad
noncomputable def fRng (f : FA) : FI := fun ρ s => (f ρ s).bind gRng
theorem RD.int_inv {K : PySem.W.Frag} {as : As} {H : Hp} {v : V} {i : Int} (h : RD K as H v (.int i)) : v = .int i := by
 cases h with | da t => cases t; rfl
theorem RD.str_inv {K : PySem.W.Frag} {as : As} {H : Hp} {v : V} {x : Str} (h : RD K as H v (.str x)) : v = .str x := by
 cases h with | da t => cases t; rfl
theorem RD.bl_inv {K : PySem.W.Frag} {as : As} {H : Hp} {v : V} {x : Bool} (h : RD K as H v (.bl x)) : v = .bl x := by
 cases h with | da t => cases t; rfl
theorem RDs.one {K : PySem.W.Frag} {as : As} {H : Hp} {vs : List V} {d : D} (h : RDs K as H vs [d]) : ∃ v, vs = [v] /\ RD K as H v d := by
 cases h with | cons a b => cases b; exact ⟨_, rfl, a⟩
theorem RDs.two {K : PySem.W.Frag} {as : As} {H : Hp} {vs : List V} {d e : D} (h : RDs K as H vs [d, e]) : ∃ v w, vs = [v, w] /\ RD K as H v d /\ RD K as H w e := by
 cases h with | cons a b => cases b with | cons b c => cases c; exact ⟨_, _, rfl, a, b⟩
theorem ri_rng {f : FA} {p : Pos} (hm : X.mg "range" = none) (h : RA X [a] f) (hg : Gl X "range" := by rfl) (hs : starEach [a] X.env = [(false, eval a X.env)] := by rfl) : RI X tg (.Call (.Name "range" p) [a] [] pos) (fRng f) := by
 obtain ⟨t, p, r⟩ := h.ex
 refine ⟨_, pi_range1 hg hm p hs, fun as σ H ρ s Q rl en h => ?_⟩
 refine r as σ H ρ s _ rl en (Dn.bind h fun ds s1 as1 H1 vs st1 rl1 r1 h1 => ?_)
 unfold gRng at h1
 split at h1
 ·rename_i j
  obtain ⟨v, rfl, rv⟩ := r1.one
  cases rv.int_inv
  split at h1
  ·rename_i hb
   exact ⟨j, rfl, hb.1, hb.2, Dn.now (Q := Q) h1 rl1 (itok_r 0 _)⟩
  ·exact h1.elim
 ·exact h1.elim
noncomputable def compF (g : Tg) (ft : FT) (fe : FE) (ρ0 : En) (p : Wk) : List D -> S -> R (List D)
 | [], s => .ok [] s
 | d :: r, s => match setD g d ρ0 with
  | none => .bad
  | some ρ1 => (ft ρ1 s).bind fun b s2 => if b = true then (fe ρ1 s2).bind fun x s3 => chk p s3 ((compF g ft fe ρ0 p r s3).bind fun xs s4 => .ok (x :: xs) s4) else chk p s2 (compF g ft fe ρ0 p r s2)
noncomputable def capD (ρ : En) (js : List Nat) : En := js.map fun j => (ρ[j]?).join
noncomputable def fLc (m : Bool) (js : List Nat) (k : Nat) (fi : FI) (g : Tg) (ft : FT) (fe : FE) : FE := fun ρ s => (fi ρ s).bind fun p s1 => if p.1.length <= sizeLine then chk p s1 ((compF g ft fe (List.replicate k none ++ capD ρ js) p p.1 s1).bind fun ds s2 => newL m ds s2) else .bad
noncomputable def fYes : FT := fun _ s => .ok true s
structure RIfs (X : Cx) (ifs : List Expr) (f : FT) : Prop where
 run : PIfs X ifs (tOfT X.K f)
theorem rifs_nil : RIfs X [] fYes := ⟨fun pins s σ H Q I ⟨as, ρ, s', rl, en, h⟩ => pifs_nil pins s σ H Q I (show Q true H from Dn.now h rl rfl)⟩
theorem rifs_one {f : FT} (h : RT X a f) : RIfs X [a] f := ⟨pifs_one h.pt⟩
theorem Envs.caps {K : PySem.W.Frag} {as : As} {H : Hp} {ρ : En} {σ : St} (e : Envs K as H ρ σ) (js : List Nat) : Envs K as H (capD ρ js) (capV σ js) := by
 refine ⟨by simp [capD, capV], fun i d h => ?_⟩
 unfold capD at h
 unfold capV
 rw [List.getElem?_map] at h ⊢
 cases q : js[i]? with
 | none => rw [q] at h; cases h
 | some j =>
  rw [q] at h
  have h : (ρ[j]?).join = some d := by simpa using h
  cases z : ρ[j]? with
  | none => rw [z] at h; cases h
  | some o =>
   rw [z] at h
   cases o with
   | none => cases h
   | some x =>
    cases h
    obtain ⟨v, e1, r⟩ := e.get j d z
    exact ⟨v, by simp [e1], r⟩
theorem Envs.own {K : PySem.W.Frag} {as : As} {H : Hp} {ρ : En} {σ vs : St} {k : Nat} (e : Envs K as H ρ σ) (hl : vs.length = k) : Envs K as H (List.replicate k none ++ ρ) (vs ++ σ) := by
 refine ⟨by simp [hl, e.len], fun i d h => ?_⟩
 by_cases z : i < k
 ·rw [List.getElem?_append_left (by simpa using z), List.getElem?_replicate] at h
  simp [z] at h
 ·rw [List.getElem?_append_right (by simpa using Nat.le_of_not_lt z)] at h
  rw [List.getElem?_append_right (by rw [hl]; exact Nat.le_of_not_lt z)]
  rw [hl]
  exact e.get _ d (by simpa using h)
theorem lcB {K : PySem.W.Frag} {as : As} {H : Hp} {s : S} {J : It} {p : Wk} {g : Tg} {ft : FT} {fe : FE} {ρ0 : En} {k : Nat} {cap : St} {m : Bool} {Q : VK} (hg : tgLt k g = true) (hz : p.1.length <= sizeLine) (rl : Rel K as H s) (ri : ItOk K as H J p) (so : SrcOk p s)
  (en : ∀ vs : St, vs.length = k -> Envs K as H ρ0 (vs ++ cap)) (h : Dn K (rD K) as H ((compF g ft fe ρ0 p p.1 s).bind fun ds s2 => newL m ds s2) Q) : tLcB (gOf K g) (tOfT K ft) (tOf K fe) k cap J H Q := by
 intro D hD
 have n0 : New H D (.lst []) (upd H D (.lst [])) := ⟨hD, rfl⟩
 have nh : D ∉ as.hd := fun z => by obtain ⟨_, e⟩ := rl.hs D z; rw [hD] at e; cases e
 have s0 := step_hide (as := as) n0
 refine ⟨fun i mm ys H' => ∃ as2 s2 ds, mm = p.1.length - i /\ i <= p.1.length /\ ys.length <= i /\ Step as H as2 H' /\ D ∈ as2.hd /\ Rel K as2 H' s2 /\ SrcOk p s2 /\ RDs K as2 H' ys ds /\
   Dn K (rD K) as H ((compF g ft fe ρ0 p (p.1.drop i) s2).bind fun xs s3 => newL m (ds ++ xs) s3) Q,
  ⟨_, as.hide D, s, [], rfl, Nat.zero_le _, Nat.le_refl _, s0, List.mem_cons_self, rl.hide n0, so, .nil, h⟩, ?_⟩
 rintro i mm ys H' hDi ⟨as2, s2, ds, hm, hi, hys, st2, mD2, rl2, so2, rs, h2⟩
 have tn := ri as2 H' s2 st2.toStep0 rl2 so2 i
 by_cases hl : i < p.1.length
 ·obtain ⟨d, hd⟩ : ∃ d, p.1[i]? = some d := ⟨_, List.getElem?_eq_getElem hl⟩
  have hdr : p.1.drop i = d :: p.1.drop (i + 1) := by
   rw [List.drop_eq_getElem_cons hl]
   rw [List.getElem?_eq_getElem hl] at hd
   cases hd; rfl
  rw [hdr] at h2
  obtain ⟨go, yl⟩ := tn.2 d hd
  unfold compF at h2
  split at h2
  ·exact h2.elim
  ·rename_i ρ3 q3
   refine .inr ⟨go, fun x H3 hy vs hv => ?_⟩
   obtain ⟨st3, rl3, rx⟩ := yl x H3 hy
   refine ref_tg g ((en vs hv).mono (st2.trans st3)) rx q3 fun σ3 en3 fr => ?_
   refine ⟨fr k hg vs cap hv rfl, as2, ρ3, s2, rl3, en3, ?_⟩
   have eD3 : H3 D = some (.lst ys) := st3.hh D mD2 _ hDi
   cases qt : ft ρ3 s2 with
   | bad => rw [qt] at h2; exact h2.elim
   | ok b s4 =>
    rw [qt] at h2
    intro b' as4 H4 st4 rl4 eb
    have eb' : b' = b := eb
    subst eb'
    have mD4 : D ∈ as4.hd := st4.hk D mD2
    have eD4 : H4 D = some (.lst ys) := st4.hh D mD2 _ eD3
    have st24 := (st2.trans st3).trans st4
    rw [R.bind_ok] at h2
    cases b' with
    | false =>
     rw [if_neg Bool.false_ne_true] at h2 ⊢
     by_cases c : SrcOk p s4
     ·rw [chk_pos c] at h2
      exact ⟨eD4, _, by omega, as4, s4, ds, rfl, hl, by omega, st24, mD4, rl4, c, (rs.mono st3).mono st4, h2⟩
     ·have e : chk p s4 (compF g ft fe ρ0 p (p.1.drop (i + 1)) s4) = .bad := if_neg c
      rw [e] at h2; exact h2.elim
    | true =>
     rw [if_pos rfl] at h2 ⊢
     refine ⟨as4, ρ3, s4, rl4, en3.mono st4, ?_⟩
     cases qe : fe ρ3 s4 with
     | bad => rw [qe] at h2; exact h2.elim
     | ok x5 s5 =>
      rw [qe] at h2
      intro v5 as5 H5 st5 rl5 r5
      rw [R.bind_ok] at h2
      have mD5 : D ∈ as5.hd := st5.hk D mD4
      have eD5 : H5 D = some (.lst ys) := st5.hh D mD4 _ eD4
      have st25 := st24.trans st5
      by_cases c : SrcOk p s5
      ·rw [chk_pos c] at h2
       have cg : Chg H5 D (.lst (ys ++ [v5])) (upd H5 D (.lst (ys ++ [v5]))) := ⟨rfl⟩
       have s05 := step0_chg (.inr mD5) cg
       refine ⟨eD5, by omega, _, by omega, as5, s5, ds ++ [x5], rfl, hl, by simp; omega, step_own st25 hD nh mD5 cg, mD5, rl5.chgH mD5 cg, c, ((((rs.mono st3).mono st4).mono st5).append (.cons r5 .nil)).mono0 s05, ?_⟩
       cases qc : compF g ft fe ρ0 p (p.1.drop (i + 1)) s5 with
       | bad => rw [qc] at h2; exact h2.elim
       | ok xs s6 =>
        rw [qc] at h2
        show Dn K (rD K) as H (newL m ((ds ++ [x5]) ++ xs) s6) Q
        rw [List.append_assoc]
        exact h2
      ·have e : chk p s5 ((compF g ft fe ρ0 p (p.1.drop (i + 1)) s5).bind fun xs s4 => .ok (x5 :: xs) s4) = .bad := if_neg c
       rw [e] at h2; exact h2.elim
 ·refine .inl ⟨tn.1 (Nat.le_of_not_lt hl), ?_⟩
  rw [List.drop_eq_nil_of_le (Nat.le_of_not_lt hl)] at h2
  replace h2 : Dn K (rD K) as H (newL m (ds ++ []) s2) Q := h2
  rw [List.append_nil] at h2
  unfold newL at h2
  cases m with
  | true =>
   rw [if_pos rfl] at h2
   refine h2 (.ref D) _ H' (step_end2 st2 nh mD2) (rl2.take mD2 ⟨ys, hDi, rs.mono0 (step_take mD2)⟩) (.ref (by simp [rl2.len]) fun q e => ?_)
   rw [← rl2.len] at e
   simp at e
   exact e.symm
  | false =>
   rw [if_neg Bool.false_ne_true] at h2
   cases q : pures ds with
   | none => rw [q] at h2; exact h2.elim
   | some zs =>
    rw [q] at h2
    have e := pures_eq q
    subst e
    have h2 : Dn K (rD K) as H (R.ok (.lst zs) s2) Q := h2
    refine h2 (.ref D) _ H' (step_end st2 nh step_show) rl2.show (.da (.lst (fun z => ?_) hDi (rs.td.mono0 step_show)))
    rcases z with z | z
    ·exact rl2.hx D mD2 z
    ·exact absurd rfl (of_decide_eq_true (List.mem_filter.mp z).2)
end
end PF
namespace PF
open PySem PySem.Spec
open L2
open PyProof.Rows (envOfC)
section
variable {X : Cx} {own caps : List Str} {js : List Nat} {scope : Scope} {tg iter elt a : Expr} {ifs : List Expr} {fi : FI} {g : Tg} {ft : FT} {fe fa : FE} {pos : Pos}
theorem ref_lc {K : PySem.W.Frag} {wi : TI} {k : Nat} {m : Bool} (ri : RefI K wi fi) (hl : tgLt k g = true) : RefE K (tLc js k wi (gOf K g) (tOfT K ft) (tOf K fe)) (fLc m js k fi g ft fe) := by
 intro as σ H ρ s Q rl en h
 refine ri as σ H ρ s _ rl en (Dn.bind h fun p s1 as1 H1 J st1 rl1 r1 h1 => ?_)
 split at h1
 ·rename_i hz
  obtain ⟨so, h1⟩ := Dn.chk h1
  exact lcB hl hz rl1 r1 so (fun vs hv => ((en.mono st1).caps js).own hv) h1
 ·exact h1.elim
theorem re_lc (m : Bool) (hcalm : X.calm = true) (hkind : scope.kind = .function) (hnames : (scope.names.all fun p => !(p.2 == .local) || (scope.names.lookup p.1 == some .local)) = true) (hcell : (scope.names.any fun p => p.2 == .cell) = false)
  (hk : (scope.names.all fun p => !(p.2 == .free) || (X.env.kindOf p.1 == some .cell || X.env.kindOf p.1 == some .free)) = true)
  (hcap : Caps X scope caps js) (hl : tgLt own.length g = true) (hi : RI X tg iter fi) (hg : ∀ C fp s H, RG (cxLc X own caps scope C fp s H) tg g) (ht : ∀ C fp s H, RIfs (cxLc X own caps scope C fp s H) ifs ft) (he : ∀ C fp s H, RE (cxLc X own caps scope C fp s H) elt fe)
  (hs : ∀ x, foldedSetIterable iter X.env x = pure x := by intro _; rfl) : RE X (.ListComp elt [⟨tg, iter, ifs, 0⟩] scope pos) (fLc m js own.length fi g ft fe) := by
 obtain ⟨wi, pi, ri⟩ := hi.ex
 exact ⟨_, pe_lc hcalm hkind hnames hcell hk hcap pi (fun C fp s H => (hg C fp s H).pg) (fun C fp s H => (ht C fp s H).run) (fun C fp s H => (he C fp s H).pe) hs, ref_lc ri hl⟩
theorem rs_setLc (m : Bool) {i : Nat} {y : Str} {py : Pos} {spos : Pos} (hsw : swapsWith (.ListComp elt [⟨tg, iter, ifs, 0⟩] scope pos) (some (.Name y py)) spos.line X.env = pure true) (hN : X.N.Nodup) (hy : X.N[i]? = some y) (hyl : X.env.scope.names.lookup y = some .local)
  (hcalm : X.calm = true) (hkind : scope.kind = .function) (hnames : (scope.names.all fun p => !(p.2 == .local) || (scope.names.lookup p.1 == some .local)) = true) (hcell : (scope.names.any fun p => p.2 == .cell) = false)
  (hk : (scope.names.all fun p => !(p.2 == .free) || (X.env.kindOf p.1 == some .cell || X.env.kindOf p.1 == some .free)) = true)
  (hcap : Caps X scope caps js) (hl : tgLt own.length g = true) (hi : RI X tg iter fi) (hg : ∀ C fp s H, RG (cxLc X own caps scope C fp s H) tg g) (ht : ∀ C fp s H, RIfs (cxLc X own caps scope C fp s H) ifs ft) (he : ∀ C fp s H, RE (cxLc X own caps scope C fp s H) elt fe)
  (hs : ∀ x, foldedSetIterable iter X.env x = pure x := by intro _; rfl) : RS X (.Assign [.Name y py] (.ListComp elt [⟨tg, iter, ifs, 0⟩] scope pos) spos) (fSet i (fLc m js own.length fi g ft fe)) := by
 obtain ⟨wi, pi, ri⟩ := hi.ex
 refine ⟨_, ps_setLc (own := own) (te := tOf X.K fe) (tt := tOfT X.K ft) (g := gOf X.K g) hsw hN hy hyl hcalm hkind hnames hcell hk hcap pi (fun C fp s H => (hg C fp s H).pg) (fun C fp s H => (ht C fp s H).run) (fun C fp s H => (he C fp s H).pe) hs, fun as σ H ρ s D rl en h => ?_⟩
 exact ref_lc (m := m) ri hl as σ H ρ s _ rl en (Dn.bind h fun d s1 as1 H1 v st1 rl1 r1 h1 => Dn.now (b := FV.nx (σ.set i (some v))) h1 rl1 (.nx ((en.mono st1).set i r1)))
noncomputable def gFrz (d : D) (s : S) : R D := match d with
 | .ref n => match s[n]? with
  | some (.lst ds) => match pures ds with
   | some xs => .ok (.lst xs) (s.set n .gone)
   | none => .bad
  | _ => .bad
 | d => .ok d s
noncomputable def fFrz (f : FE) : FE := fun ρ s => (f ρ s).bind gFrz
theorem frz_ok {K : PySem.W.Frag} {as : As} {H : Hp} {s : S} {d : D} {v : V} {Q : VK} (rl : Rel K as H s) (r : RD K as H v d) (h : Dn K (rD K) as H (gFrz d s) Q) : Q v H := by
 cases r with
 | @ref p n l hr =>
  have h1 : Dn K (rD K) as H (match s[n]? with | some (O.lst ds) => (match pures ds with | some xs => R.ok (D.lst xs) (s.set n .gone) | none => .bad) | _ => R.bad) Q := h
  split at h1
  ·rename_i ds e
   split at h1
   ·rename_i xs q
    obtain ⟨ha, vs, hv, rs⟩ := ref_list rl hr e
    have e2 := pures_eq q
    subst e2
    refine h1 (.ref p) (as.cut n) H (step_frz n) rl.frz (.da (.lst ?_ hv (rs.td.mono (step_frz n))))
    rintro (z | z)
    ·obtain ⟨i, hi⟩ := mem_as.mp z
     have hi' := cut_ix hi
     have : n = i := rl.nd n i p ha hi'
     subst this
     rw [List.getElem?_set] at hi
     simp at hi
    ·exact rl.hx p z (mem_as.mpr ⟨n, ha⟩)
   ·exact h1.elim
  ·exact h1.elim
 | da t => exact Dn.now (Q := Q) h rl (.da t)
 | ty n => exact Dn.now (Q := Q) h rl (.ty n)
 | fn a => exact Dn.now (Q := Q) h rl (.fn a)
 | tabF a => exact Dn.now (Q := Q) h rl (.tabF a)
 | con q r => exact Dn.now (Q := Q) h rl (.con q r)
 | frz q r => exact Dn.now (Q := Q) h rl (.frz q r)
theorem re_frz (h : RE X a fa) : RE X a (fFrz fa) := by
 obtain ⟨t, p, r⟩ := h.ex
 refine ⟨_, p, fun as σ H ρ s Q rl en h => ?_⟩
 exact r as σ H ρ s _ rl en (Dn.bind h fun d s1 as1 H1 v st1 rl1 r1 h1 => frz_ok rl1 r1 h1)
end
noncomputable abbrev FF := List D -> S -> R D
noncomputable def spF (K : PySem.W.Frag) (n : Nat) (F : FF) : Sp := fun vs H Q _ => vs.length = n /\ ∃ as ds s, Rel K as H s /\ RDs K as H vs ds /\ Dn K (rD K) as H (F ds s) Q
structure CalF (P : Program) (w : World) (K : PySem.W.Frag) (mg : Str -> Option Value) (base : Heap) (x : Str) (k n : Nat) (F : FF) : Prop where
 cal : Cal P w K mg base x k (spF K n F)
noncomputable def fCall (n : Nat) (F : FF) (f : FA) : FE := fun ρ s => (f ρ s).bind fun ds s1 => if ds.length = n then F ds s1 else .bad
section
variable {X : Cx} {x : Str} {k n : Nat} {F : FF} {p pos : Pos} {e : Expr} {es : List Expr} {f : FA}
theorem re_c (c : CalF X.prog X.w X.K X.mg X.base x k n F) (hr : Room k X.A) (ha : RA X (e :: es) f) (hg : Gl X x := by rfl) (hdb : (x == ("__debug__" : Str)) = false := by decide)
  (he : starEach (e :: es) X.env = (false, eval e X.env) :: starEach es X.env := by rfl) (hpl : (backTo pos (starEach es X.env)).any (·.1) = false := by rfl) : RE X (.Call (.Name x p) (e :: es) [] pos) (fCall n F f) := by
 obtain ⟨t, p, r⟩ := ha.ex
 refine ⟨_, pe_c c.cal hr p hg hdb he hpl, fun as σ H ρ s Q rl en h => ?_⟩
 refine r as σ H ρ s _ rl en (Dn.bind h fun ds s1 as1 H1 vs st1 rl1 r1 h1 => ?_)
 split at h1
 ·rename_i hn
  refine ⟨by rw [List.append_nil, r1.length]; exact hn, as1, ds, s1, rl1, ?_, h1⟩
  rw [List.append_nil]; exact r1
 ·exact h1.elim
end
noncomputable def bodyF (m : Nat) (fb : FS) : FF := fun ds s => (fb (ds.map some ++ List.replicate (m - ds.length) none) s).bind fun fl s1 => match fl with
 | .rt d => .ok d s1
 | .nx _ => .ok .non s1
 | _ => .bad
theorem start_envs {K : PySem.W.Frag} {as : As} {H : Hp} {N : List Str} {vs : List V} {ds : List D} (r : RDs K as H vs ds) : Envs K as H (ds.map some ++ List.replicate (N.length - ds.length) none) (L2.start N vs) := by
 unfold L2.start
 refine ⟨by simp [r.length], fun i d h => ?_⟩
 by_cases z : i < ds.length
 ·rw [List.getElem?_append_left (by simpa using z), List.getElem?_map] at h
  cases q : ds[i]? with
  | none => rw [q] at h; cases h
  | some x =>
   rw [q] at h
   cases h
   obtain ⟨v, hv, rv⟩ := r.get q
   exact ⟨v, by rw [List.getElem?_append_left (by rw [List.length_map, r.length]; exact z), List.getElem?_map, hv]; rfl, rv⟩
 ·rw [List.getElem?_append_right (by simpa using Nat.le_of_not_lt z), List.getElem?_replicate] at h
  split at h
  ·cases h
  ·cases h
section
variable {P : Program} {w : World} {K : PySem.W.Frag} {mg : Str -> Option Value} {base : Heap} {x : Str} {st : Stmt} {N ps : List Str} {k : Nat}
theorem calF (h : Has K mg x st ps) (S : FnScope N ps (defScope st)) {m n : Nat} {fb : FS} (hm : N.length = m) (hn : ps.length = n)
  (hbody : ∀ (f : Addr) (cdv : Value) (A : Around) (outer : List Env) (s : Shared) (H : Hp) (E : XK), Room k (A.deeper (envOfC x (defScope st) s.heap.objs.size f cdv)) ->
   RSs (cxOf CX0 P w K mg base N x (defScope st) f cdv A outer s H E).nox (defBody st) fb) : CalF P w K mg base x (k + 1) n (bodyF m fb) := by
 refine ⟨h.cal S (fun vs H Q E h => by rw [hn]; exact h.1) fun f cdv A outer s H vs Q E hr h => ?_⟩
 obtain ⟨hv, as, ds, s', rl, rs, h⟩ := h
 obtain ⟨t, p, r⟩ := (hbody f cdv A outer s H E hr).ex
 refine ⟨t, p, ?_⟩
 have en : Envs K as H (ds.map some ++ List.replicate (m - ds.length) none) (L2.start N vs) := by rw [← hm]; exact start_envs rs
 refine r as _ H _ s' _ rl en (Dn.bind h fun fl s1 as1 H1 fv st1 rl1 r1 h1 => ?_)
 cases r1 with
 | nx e => exact Dn.now (Q := Q) h1 rl1 (.da .non)
 | rt e => exact Dn.now (Q := Q) h1 rl1 e
 | bk e => exact h1.elim
 | ct e => exact h1.elim
end
noncomputable def spLaw (K : PySem.W.Frag) : Sp := fun vs H Q _ => ∃ (a : Addr) (ns : List Int), vs = [.ref a] /\ SqL K H a (ns.map V.int) /\ ns.length <= 63 /\ ∀ H', Q (.bl true) H'
theorem TDs.ints {as : As} {H : Hp} : ∀ ns : List Int, TDs as H (ns.map V.int) (ns.map PyData.int)
 | [] => .nil
 | n :: r => .cons (.int n) (TDs.ints r)
end PF
namespace PF
open PySem PySem.Spec
open L2
section
variable {X : Cx} {pins : List (Addr × Obj)} {σ : St} {H : Hp} {s : Shared} {as : As}
theorem dct_empty {a : Addr} (I : Inv X pins σ H s) (e : H a = some (.dK [])) : (a == sysModules) = false /\ ∃ (o : Obj) (es : Array DictEntry) (ep : Nat), s.heap.get? a = some o /\ o.cls = .type "dict" /\ o.data = .dict es ep /\ es.toList = [] := by
 obtain ⟨_, hd, vs, rel, dd⟩ := dk_of I.hok e
 cases rel
 obtain ⟨o, es, ep, h1, h2, h3, h4, h5⟩ := dd
 refine ⟨hd, o, es, ep, h1, h2.1, h3, ?_⟩
 cases h6 : es.toList with
 | nil => rfl
 | cons x r => rw [h6] at h5; obtain ⟨h5, _⟩ := h5; cases h5
mutual
theorem TD.reads (I : Inv X pins σ H s) : ∀ {v : V} {d : PyData} {u : Value}, TD as H v d -> RelV v u -> ∃ bs, Reads s.heap u d bs
 | _, _, u, .non, r => by cases (show u = Value.none from r); exact ⟨_, .none⟩
 | _, _, u, .bl b, r => by cases (show u = Value.bool b from r); exact ⟨_, .bool b⟩
 | _, _, u, .int i, r => by obtain ⟨t, e⟩ := (show ∃ t, u = Value.int i t from r); subst e; exact ⟨_, .int i t⟩
 | _, _, u, .str x, r => by obtain ⟨t, e⟩ := (show ∃ t, u = Value.str x t from r); subst e; exact ⟨_, .str x t⟩
 | _, _, u, .tup (p := a) (xs := xs) n e q, r => by
  cases (show u = Value.ref a from r)
  obtain ⟨z, its, rv, p⟩ := (show ObjOk X.prog X.w H s.heap a (.tup xs) from I.hok a _ e)
  obtain ⟨o, h1, h2, k, h3⟩ := p.tup
  obtain ⟨bs, ra⟩ := TDs.reads I q rv
  exact ⟨_, .tuple h1 h2 h3 ra⟩
 | _, _, u, .lst (p := a) (xs := xs) n e q, r => by
  cases (show u = Value.ref a from r)
  obtain ⟨z, its, k, rv, h1⟩ := (show ObjOk X.prog X.w H s.heap a (.lst xs) from I.hok a _ e)
  obtain ⟨bs, ra⟩ := TDs.reads I q rv
  exact ⟨_, .list h1 rfl rfl ra⟩
 | _, _, u, .dct (p := a) n e, r => by
  cases (show u = Value.ref a from r)
  obtain ⟨_, o, es, ep, h1, h2, h3, h4⟩ := dct_empty I e
  exact ⟨_, .dict (kvs := []) h1 h2 h3 (by rw [h4]; exact .nil) (by rw [h4]; exact .nil)⟩
theorem TDs.reads (I : Inv X pins σ H s) : ∀ {vs : List V} {ds : List PyData} {us : List Value}, TDs as H vs ds -> Vals vs us -> ∃ bs, ReadsAll s.heap us ds bs
 | _, _, _, .nil, r => by cases r; exact ⟨_, .nil⟩
 | _, _, _, .cons a b, r => by
  cases r with
  | cons r1 r2 =>
   obtain ⟨as, h1⟩ := TD.reads I a r1
   obtain ⟨bs, h2⟩ := TDs.reads I b r2
   exact ⟨_, .cons h1 h2⟩
end
noncomputable def toP (s : S) : D -> Option PyData
 | .da d => some d
 | .con ds => some (.tuple ds)
 | .frz ds => some (.list ds)
 | .ref n => match s[n]? with
  | some (.lst ds) => (pures ds).map PyData.list
  | _ => none
 | _ => none
noncomputable def toL (s : S) : D -> Option (List D)
 | .lst ds => some (ds.map D.da)
 | .ref n => match s[n]? with
  | some (.lst ds) => some ds
  | _ => none
 | _ => none
theorem toL_ok {K : PySem.W.Frag} {st : S} {v : V} {d : D} {ds : List D} (rl : Rel K as H st) (r : RD K as H v d) (h : toL st d = some ds) : ∃ p xs, v = .ref p /\ H p = some (.lst xs) /\ RDs K as H xs ds := by
 cases r with
 | da t =>
  cases t with
  | lst n e q => cases h; exact ⟨_, _, rfl, e, q.rd⟩
  | _ => cases h
 | @ref p n l hr =>
  have h : (match st[n]? with | some (O.lst ds) => some ds | _ => none) = some ds := h
  split at h
  ·rename_i ys e
   cases h
   obtain ⟨_, xs, hx, rs⟩ := ref_list rl hr e
   exact ⟨p, xs, rfl, hx, rs⟩
  ·cases h
 | _ => cases h
theorem RD.reads {st : S} {v : V} {d : D} {pd : PyData} {u : Value} (I : Inv X pins σ H s) (rl : Rel X.K as H st) (r : RD X.K as H v d) (h : toP st d = some pd) (ru : RelV v u) : ∃ bs, Reads s.heap u pd bs := by
 cases r with
 | da t => cases h; exact t.reads I ru
 | con q rs =>
  cases h
  obtain ⟨its, rv, ⟨o, h1, h2, k, h3⟩, z⟩ := I.tuple (q H)
  obtain ⟨bs, ra⟩ := rs.reads I rv
  cases ru
  exact ⟨_, .tuple h1 h2 h3 ra⟩
 | frz q rs =>
  cases h
  obtain ⟨its, rv, ⟨o, k, h1, h2, h3, h4⟩, z⟩ := I.list (q as H (Step.refl _ _).toStep0)
  obtain ⟨bs, ra⟩ := rs.reads I rv
  cases ru
  exact ⟨_, .list h1 h2 h4 ra⟩
 | @ref p n l hr =>
  have h : (match st[n]? with | some (O.lst ds) => (pures ds).map PyData.list | _ => none) = some pd := h
  split at h
  ·rename_i ds e
   cases q : pures ds with
   | none => rw [q] at h; cases h
   | some xs =>
    rw [q] at h
    cases h
    have e2 := pures_eq q
    subst e2
    obtain ⟨_, vs, hv, rs⟩ := ref_list rl hr e
    obtain ⟨z, its, k, rv, h1⟩ := (show ObjOk X.prog X.w H s.heap p (.lst vs) from I.hok p _ hv)
    obtain ⟨bs, ra⟩ := rs.td.reads I rv
    cases ru
    exact ⟨_, .list h1 rfl rfl ra⟩
  ·cases h
 | _ => cases h
end
noncomputable def okD (d : PyData) : Bool := d.canLay0 && decide (d.depth <= 64)
section
variable {X : Cx}
theorem op2_of {f : Value -> Value -> Sem Value} {g : D -> D -> S -> R D} (h : ∀ (pins : List (Addr × Obj)) (sh : Shared) (σ : St) (H : Hp) (as : As) (s : S) (x y : V) (dx dy : D) (v u : Value) (Q : VK), Inv X pins σ H sh -> Rel X.K as H s -> RD X.K as H x dx -> RD X.K as H y dy -> RelV x v -> RelV y u ->
  Dn X.K (rD X.K) as H (g dx dy s) Q -> wpAny (model X.prog X.w) X.A (f v u) (EP X pins σ Q) X.xe sh) : Op2 X f g :=
 ⟨fun x y H Q => ∃ as s dx dy, Rel X.K as H s /\ RD X.K as H x dx /\ RD X.K as H y dy /\ Dn X.K (rD X.K) as H (g dx dy s) Q,
  fun pins sh σ H x y v u Q I rx ry ⟨as, s, dx, dy, rl, r1, r2, q⟩ => h pins sh σ H as s x y dx dy v u Q I rl r1 r2 rx ry q,
  fun as H s x y dx dy Q rl r1 r2 q => ⟨as, s, dx, dy, rl, r1, r2, q⟩⟩
noncomputable def gEqD (dx dy : D) (s : S) : R D := match toP s dx, toP s dy with
 | some a, some b => if okD a = true /\ okD b = true then .ok (.bl (PyData.eqv a b)) s else .bad
 | _, _ => .bad
noncomputable def gNeD (dx dy : D) (s : S) : R D := match toP s dx, toP s dy with
 | some a, some b => if okD a = true /\ okD b = true then .ok (.bl (!PyData.eqv a b)) s else .bad
 | _, _ => .bad
noncomputable def gEq (dx dy : D) (s : S) : R D := match dx, dy with
 | .str x, .str y => .ok (.bl (decide (x = y))) s
 | dx, dy => gEqD dx dy s
noncomputable def gNe (dx dy : D) (s : S) : R D := match dx, dy with
 | .str x, .str y => .ok (.bl (!decide (x = y))) s
 | dx, dy => gNeD dx dy s
theorem okD_lay {d : PyData} (h : okD d = true) : d.canLay0 = true /\ d.depth <= 64 := by
 unfold okD at h
 rw [Bool.and_eq_true] at h
 exact ⟨h.1, of_decide_eq_true h.2⟩
theorem o_eqD (hu : X.A.units + 64 < cLine) : Op2 X (compareOp .Eq) gEqD := op2_of fun pins sh σ H as s x y dx dy v u Q I rl r1 r2 rx ry h => by
 unfold gEqD at h
 split at h
 ·rename_i a b ea eb
  split at h
  ·rename_i hok
   obtain ⟨bs1, q1⟩ := r1.reads I rl ea rx
   obtain ⟨bs2, q2⟩ := r2.reads I rl eb ry
   obtain ⟨c1, d1⟩ := okD_lay hok.1
   obtain ⟨c2, d2⟩ := okD_lay hok.2
   exact SeqAt.compareEq_reads q1 q2 c1 c2 (by omega) ⟨.bl _, H, I, rfl, Dn.now (Q := Q) h rl (.da (.bl _))⟩
  ·exact h.elim
 ·exact h.elim
theorem o_neD (hu : X.A.units + 64 < cLine) : Op2 X (compareOp .NotEq) gNeD := op2_of fun pins sh σ H as s x y dx dy v u Q I rl r1 r2 rx ry h => by
 unfold gNeD at h
 split at h
 ·rename_i a b ea eb
  split at h
  ·rename_i hok
   obtain ⟨bs1, q1⟩ := r1.reads I rl ea rx
   obtain ⟨bs2, q2⟩ := r2.reads I rl eb ry
   obtain ⟨c1, d1⟩ := okD_lay hok.1
   obtain ⟨c2, d2⟩ := okD_lay hok.2
   exact SeqAt.compareNe_reads q1 q2 c1 c2 (by omega) ⟨.bl _, H, I, rfl, Dn.now (Q := Q) h rl (.da (.bl _))⟩
  ·exact h.elim
 ·exact h.elim
theorem str_eqV (x y : Str) : decide (V.str x = V.str y) = decide (x = y) := by
 rw [Bool.eq_iff_iff, decide_eq_true_eq, decide_eq_true_eq, V.str.injEq]
theorem str_inv' {K : PySem.W.Frag} {as : As} {H : Hp} {v : V} {x : Str} (h : RD K as H v (.str x)) : v = .str x := by
 cases h with | da t => cases t; rfl
theorem o_eq (hu : X.A.units + 64 < cLine) : Op2 X (compareOp .Eq) gEq := op2_of fun pins sh σ H as s x y dx dy v u Q I rl r1 r2 rx ry h => by
 unfold gEq at h
 split at h
 ·cases str_inv' r1; cases str_inv' r2
  exact op_eq pins sh σ H _ _ v u Q I rx ry ⟨rfl, by rw [str_eqV]; exact Dn.now (Q := Q) h rl (.da (.bl _))⟩
 ·obtain ⟨r, ho, hr⟩ := (o_eqD (X := X) hu).ex
  exact ho pins sh σ H x y v u Q I rx ry (hr as H s x y _ _ Q rl r1 r2 h)
theorem o_ne (hu : X.A.units + 64 < cLine) : Op2 X (compareOp .NotEq) gNe := op2_of fun pins sh σ H as s x y dx dy v u Q I rl r1 r2 rx ry h => by
 unfold gNe at h
 split at h
 ·cases str_inv' r1; cases str_inv' r2
  exact op_ne pins sh σ H _ _ v u Q I rx ry ⟨rfl, by rw [str_eqV]; exact Dn.now (Q := Q) h rl (.da (.bl _))⟩
 ·obtain ⟨r, ho, hr⟩ := (o_neD (X := X) hu).ex
  exact ho pins sh σ H x y v u Q I rx ry (hr as H s x y _ _ Q rl r1 r2 h)
noncomputable def itemsP : PyData -> Option (List PyData)
 | .list ds => some ds
 | .tuple ds => some ds
 | _ => none
noncomputable def nb (n b : Bool) : Bool := match n with
 | true => !b
 | false => b
noncomputable def gInS (neg : Bool) (dx dy : D) (s : S) : R D := match toP s dx, (toP s dy).bind itemsP with
 | some a, some ds => if okD a = true /\ ds.all okD = true then .ok (.bl (nb neg (ds.any fun d => PyData.eqv d a))) s else .bad
 | _, _ => .bad
noncomputable def gInB (neg : Bool) (dx dy : D) (s : S) : R D := match dx, dy with
 | .str a, .str b => .ok (.bl (nb neg (!(Builtin.Str.occurrences b a 0 b.length 1).isEmpty))) s
 | dx, dy => gInS neg dx dy s
open Classical in
theorem eqAts {sh : Shared} {A : Around} {v : Value} {a : PyData} {bs : List Addr} (ra : Reads sh.heap v a bs) (ha : okD a = true) (hu : A.units + 64 < cLine) {us : List Value} {ds : List PyData} {cs : List Addr} (h : ReadsAll sh.heap us ds cs) (hd : ds.all okD = true) :
  ∃ e : Value -> Bool, (∀ y ∈ us, SeqAt.EqAt A sh y v (e y)) /\ us.any e = ds.any fun d => PyData.eqv d a := by
 refine ⟨fun y => decide (∃ d cs, Reads sh.heap y d cs /\ PyData.eqv d a = true), ?_⟩
 have one : ∀ {y : Value} {d : PyData} {cs : List Addr}, Reads sh.heap y d cs -> decide (∃ d cs, Reads sh.heap y d cs /\ PyData.eqv d a = true) = PyData.eqv d a := fun {y d cs} r => by
  (rw [Bool.eq_iff_iff, decide_eq_true_eq])
  constructor
  ·rintro ⟨d', cs', r', e⟩
   obtain ⟨q, _⟩ := PyProof.Rows.reads_det (fun _ _ e _ => e) r r'
   subst q; exact e
  ·exact fun e => ⟨d, cs, r, e⟩
 induction us generalizing ds cs with
 | nil =>
  cases h
  exact ⟨fun _ z => (by cases z), rfl⟩
 | cons u us ih =>
  cases h with
  | cons r rs =>
   rw [List.all_cons, Bool.and_eq_true] at hd
   obtain ⟨i1, i2⟩ := ih rs hd.2
   obtain ⟨l1, m1⟩ := okD_lay hd.1
   obtain ⟨l2, m2⟩ := okD_lay ha
   refine ⟨fun y hy => ?_, ?_⟩
   ·rcases List.mem_cons.mp hy with z | z
    ·subst z
     show SeqAt.EqAt A sh y v (decide (∃ d cs, Reads sh.heap y d cs /\ PyData.eqv d a = true))
     rw [one r]
     exact SeqAt.eqAt_reads _ _ A sh _ _ _ _ r ra l1 l2 (by omega)
    ·exact i1 y z
   ·rw [List.any_cons, List.any_cons, i2, one r]
theorem in1_units (A : Around) : A.in1.units <= A.units + 1 := by
 show (A.in1).units <= A.units + 1
 first | exact Nat.le_refl _ | (unfold Around.in1; simp) | simp [Around.in1]
theorem inS_ok (neg : Bool) {op : CmpOp} (hop : (neg = false /\ op = .In) \/ (neg = true /\ op = .NotIn)) (hu : X.A.units + 65 < cLine) : Op2 X (compareOp op) (gInS neg) := op2_of fun pins sh σ H as s x y dx dy v u Q I rl r1 r2 rx ry h => by
 unfold gInS at h
 split at h
 ·rename_i a ds ea ed
  split at h
  ·rename_i hok
   obtain ⟨bs1, q1⟩ := r1.reads I rl ea rx
   cases e2 : toP s dy with
   | none => rw [e2] at ed; cases ed
   | some pd =>
    rw [e2] at ed
    have ed : itemsP pd = some ds := ed
    obtain ⟨bs2, q2⟩ := r2.reads I rl e2 ry
    have hin := in1_units X.A
    cases q2 with
    | list k1 k2 k3 k4 =>
     cases ed
     obtain ⟨e, he, ha⟩ := eqAts (A := X.A.in1) q1 hok.1 (by omega) k4 hok.2
     rcases hop with ⟨rfl, rfl⟩ | ⟨rfl, rfl⟩
     ·refine SeqAt.in_listAt e ⟨_, k1, k2, _, k3⟩ (fun y hy => he y (by simpa using hy)) ⟨.bl _, H, I, rfl, ?_⟩
      rw [← Array.any_toList, ha]
      exact Dn.now (Q := Q) h rl (.da (.bl _))
     ·refine SeqAt.notIn_listAt e ⟨_, k1, k2, _, k3⟩ (fun y hy => he y (by simpa using hy)) ⟨.bl _, H, I, rfl, ?_⟩
      rw [← Array.any_toList, ha]
      exact Dn.now (Q := Q) h rl (.da (.bl _))
    | tuple k1 k2 k3 k4 =>
     cases ed
     obtain ⟨e, he, ha⟩ := eqAts (A := X.A.in1) q1 hok.1 (by omega) k4 hok.2
     rcases hop with ⟨rfl, rfl⟩ | ⟨rfl, rfl⟩
     ·refine SeqAt.in_tupleAt e ⟨_, k1, k2, _, k3⟩ (fun y hy => he y (by simpa using hy)) ⟨.bl _, H, I, rfl, ?_⟩
      rw [← Array.any_toList, ha]
      exact Dn.now (Q := Q) h rl (.da (.bl _))
     ·refine SeqAt.notIn_tupleAt e ⟨_, k1, k2, _, k3⟩ (fun y hy => he y (by simpa using hy)) ⟨.bl _, H, I, rfl, ?_⟩
      rw [← Array.any_toList, ha]
      exact Dn.now (Q := Q) h rl (.da (.bl _))
    | _ => cases ed
  ·exact h.elim
 ·exact h.elim
theorem in_ok (neg : Bool) {op : CmpOp} (hop : (neg = false /\ op = .In) \/ (neg = true /\ op = .NotIn)) (hu : X.A.units + 65 < cLine) : Op2 X (compareOp op) (gInB neg) := op2_of fun pins sh σ H as s x y dx dy v u Q I rl r1 r2 rx ry h => by
 unfold gInB at h
 split at h
 ·rename_i a b
  cases r2.str_inv
  cases r1.str_inv
  rcases hop with ⟨rfl, rfl⟩ | ⟨rfl, rfl⟩
  ·exact op_in_str pins sh σ H _ _ v u Q I rx ry ⟨a, b, rfl, rfl, Dn.now (Q := Q) h rl (.da (.bl _))⟩
  ·exact op_notin_str pins sh σ H _ _ v u Q I rx ry ⟨a, b, rfl, rfl, Dn.now (Q := Q) h rl (.da (.bl _))⟩
 ·obtain ⟨r, ho, hr⟩ := (inS_ok (X := X) neg hop hu).ex
  exact ho pins sh σ H x y v u Q I rx ry (hr as H s x y _ _ Q rl r1 r2 h)
noncomputable abbrev gIn := gInB false
noncomputable abbrev gNotIn := gInB true
theorem o_in (hu : X.A.units + 65 < cLine) : Op2 X (compareOp .In) gIn := in_ok false (.inl ⟨rfl, rfl⟩) hu
theorem o_notin (hu : X.A.units + 65 < cLine) : Op2 X (compareOp .NotIn) gNotIn := in_ok true (.inr ⟨rfl, rfl⟩) hu
noncomputable def gAdd (m : Bool) (dx dy : D) (s : S) : R D := match dx, dy with
 | .int i, .int j => .ok (.int (i + j)) s
 | .bl b, .int j => .ok (.int (b01 b + j)) s
 | .str a, .str b => if a.length + b.length <= sizeLine then .ok (.str (a ++ b)) s else .bad
 | .tup xs, .tup ys => if xs.length + ys.length <= sizeLine then .ok (.tup (xs ++ ys)) s else .bad
 | dx, dy => match toL s dx, toL s dy with
  | some xs, some ys => if xs.length + ys.length <= sizeLine then newL m (xs ++ ys) s else .bad
  | _, _ => .bad
theorem RD.tup_inv {K : PySem.W.Frag} {as : As} {H : Hp} {v : V} {ds : List PyData} (h : RD K as H v (.tup ds)) : ∃ p xs, v = .ref p /\ ¬ as.has p /\ H p = some (.tup xs) /\ TDs as H xs ds := by
 cases h with | da t => cases t with | tup n e r => exact ⟨_, _, rfl, n, e, r⟩
theorem RD.lst_inv {K : PySem.W.Frag} {as : As} {H : Hp} {v : V} {ds : List PyData} (h : RD K as H v (.lst ds)) : ∃ p xs, v = .ref p /\ ¬ as.has p /\ H p = some (.lst xs) /\ TDs as H xs ds := by
 cases h with | da t => cases t with | lst n e r => exact ⟨_, _, rfl, n, e, r⟩
theorem o_add (m : Bool) : Op2 X (binaryOp .Add) (gAdd m) := op2_of fun pins sh σ H as s x y dx dy v u Q I rl r1 r2 rx ry h => by
 unfold gAdd at h
 split at h
 ·rename_i i j
  cases r1.int_inv; cases r2.int_inv
  exact op_add pins sh σ H _ _ v u Q I rx ry ⟨i, j, rfl, rfl, Dn.now (Q := Q) h rl (.da (.int _))⟩
 ·rename_i b j
  cases r1.bl_inv; cases r2.int_inv
  exact op_addL pins sh σ H _ _ v u Q I rx ry ⟨b01 b, j, rfl, rfl, Dn.now (Q := Q) h rl (.da (.int _))⟩
 ·rename_i a b
  split at h
  ·rename_i hz
   cases r1.str_inv; cases r2.str_inv
   exact op_add_str pins sh σ H _ _ v u Q I rx ry ⟨a, b, rfl, rfl, hz, Dn.now (Q := Q) h rl (.da (.str _))⟩
  ·exact h.elim
 ·rename_i xs ys
  split at h
  ·rename_i hz
   obtain ⟨p, vs, rfl, n1, e1, t1⟩ := r1.tup_inv
   obtain ⟨q, ws, rfl, n2, e2, t2⟩ := r2.tup_inv
   refine op_catTA pins sh σ H _ _ v u Q I rx ry ⟨p, q, vs, ws, rfl, rfl, SqT.of e1, SqT.of e2, by rw [t1.length, t2.length]; exact hz, fun e => ?_, fun _ e => ?_, fun _ _ r H' n => ?_⟩
   ·subst e
    cases t1
    exact Dn.now (Q := Q) h rl (.da (.tup n2 e2 t2))
   ·subst e
    cases t2
    rw [List.append_nil] at h
    exact Dn.now (Q := Q) h rl (.da (.tup n1 e1 t1))
   ·exact h (.ref r) as H' (step_new n) (rl.new n) (.da (.tup (fun z => rl.has z n.no) n.at ((t1.append t2).mono (step_new n))))
  ·exact h.elim
 ·split at h
  ·rename_i xs ys e1 e2
   split at h
   ·rename_i hz
    obtain ⟨p, vs, rfl, h1, t1⟩ := toL_ok rl r1 e1
    obtain ⟨q, ws, rfl, h2, t2⟩ := toL_ok rl r2 e2
    exact op_catN pins sh σ H _ _ v u Q I rx ry ⟨p, q, vs, ws, rfl, rfl, h1, h2, by rw [t1.length, t2.length]; exact hz, fun r H' n => newL_ok h rl (t1.append t2) n⟩
   ·exact h.elim
  ·exact h.elim
noncomputable def gSub (dx dy : D) (s : S) : R D := match dx, dy with
 | .int i, .int j => .ok (.int (i - j)) s
 | .bl b, .int j => .ok (.int (b01 b - j)) s
 | .int i, .bl b => .ok (.int (i - b01 b)) s
 | _, _ => .bad
theorem o_sub : Op2 X (binaryOp .Sub) gSub := op2_of fun pins sh σ H as s x y dx dy v u Q I rl r1 r2 rx ry h => by
 unfold gSub at h
 split at h
 ·rename_i i j
  cases r1.int_inv; cases r2.int_inv
  exact op_sub pins sh σ H _ _ v u Q I rx ry ⟨i, j, rfl, rfl, Dn.now (Q := Q) h rl (.da (.int _))⟩
 ·rename_i b j
  cases r1.bl_inv; cases r2.int_inv
  exact op_subL pins sh σ H _ _ v u Q I rx ry ⟨b01 b, j, rfl, rfl, Dn.now (Q := Q) h rl (.da (.int _))⟩
 ·rename_i i b
  cases r1.int_inv; cases r2.bl_inv
  exact op_subR pins sh σ H _ _ v u Q I rx ry ⟨i, b01 b, rfl, rfl, Dn.now (Q := Q) h rl (.da (.int _))⟩
 ·exact h.elim
noncomputable instance (i j : Int) : Decidable (CMul i j) := by unfold CMul; infer_instance
noncomputable instance (i j : Int) : Decidable (CDiv i j) := by unfold CDiv; infer_instance
noncomputable instance (i j : Int) : Decidable (CPow i j) := by unfold CPow; infer_instance
noncomputable def gI2 (C : Int -> Int -> Prop) [∀ i j, Decidable (C i j)] (f : Int -> Int -> Int) (dx dy : D) (s : S) : R D := match dx, dy with
 | .int i, .int j => if C i j then .ok (.int (f i j)) s else .bad
 | _, _ => .bad
theorem i2_ok {op : Operator} {C : Int -> Int -> Prop} [∀ i j, Decidable (C i j)] {f : Int -> Int -> Int} (o : OpR X (binaryOp op) (rI C fun i j => .int (f i j))) : Op2 X (binaryOp op) (gI2 C f) := op2_of fun pins sh σ H as s x y dx dy v u Q I rl r1 r2 rx ry h => by
 unfold gI2 at h
 split at h
 ·rename_i i j
  split at h
  ·rename_i hc
   cases r1.int_inv; cases r2.int_inv
   exact o pins sh σ H _ _ v u Q I rx ry ⟨i, j, rfl, rfl, hc, Dn.now (Q := Q) h rl (.da (.int _))⟩
  ·exact h.elim
 ·exact h.elim
noncomputable def gMul : D -> D -> S -> R D := gI2 CMul fun i j => i * j
noncomputable def gDiv : D -> D -> S -> R D := gI2 CDiv fun i j => i / j
noncomputable def gMod : D -> D -> S -> R D := gI2 (fun _ j => 0 < j) fun i j => i % j
noncomputable def gPow : D -> D -> S -> R D := gI2 CPow fun i j => i ^ j.toNat
theorem o_mul : Op2 X (binaryOp .Mult) gMul := i2_ok op_mul
theorem o_div : Op2 X (binaryOp .FloorDiv) gDiv := i2_ok op_fdiv
theorem o_mod : Op2 X (binaryOp .Mod) gMod := i2_ok op_mod
theorem o_pow : Op2 X (binaryOp .Pow) gPow := i2_ok op_pow
noncomputable def gC2 (f : Int -> Int -> Bool) (dx dy : D) (s : S) : R D := match dx, dy with
 | .int i, .int j => .ok (.bl (f i j)) s
 | _, _ => .bad
theorem c2_ok {op : CmpOp} {f : Int -> Int -> Bool} (o : OpR X (compareOp op) (rI0 fun i j => .bl (f i j))) : Op2 X (compareOp op) (gC2 f) := op2_of fun pins sh σ H as s x y dx dy v u Q I rl r1 r2 rx ry h => by
 unfold gC2 at h
 split at h
 ·rename_i i j
  cases r1.int_inv; cases r2.int_inv
  exact o pins sh σ H _ _ v u Q I rx ry ⟨i, j, rfl, rfl, Dn.now (Q := Q) h rl (.da (.bl _))⟩
 ·exact h.elim
noncomputable def gLe : D -> D -> S -> R D := gC2 fun i j => decide (i <= j)
noncomputable def gGt : D -> D -> S -> R D := gC2 fun i j => decide (j < i)
noncomputable def gGe : D -> D -> S -> R D := gC2 fun i j => decide (j <= i)
theorem o_le : Op2 X (compareOp .LtE) gLe := c2_ok op_le
theorem o_gt : Op2 X (compareOp .Gt) gGt := c2_ok op_gt
theorem o_ge : Op2 X (compareOp .GtE) gGe := c2_ok op_ge
noncomputable def isN : D -> Bool
 | .non => true
 | _ => false
theorem isN_V {K : PySem.W.Frag} {as : As} {H : Hp} {v : V} {d : D} (r : RD K as H v d) : decide (v = .non) = isN d := by
 cases r with
 | da t => cases t <;> rfl
 | _ => rfl
noncomputable def gIs (dx dy : D) (s : S) : R D := match dy with
 | .non => .ok (.bl (isN dx)) s
 | _ => .bad
noncomputable def gIsNot (dx dy : D) (s : S) : R D := match dy with
 | .non => .ok (.bl (!isN dx)) s
 | _ => .bad
theorem RD.non_inv {K : PySem.W.Frag} {as : As} {H : Hp} {v : V} (h : RD K as H v .non) : v = .non := by
 cases h with | da t => cases t; rfl
theorem o_is : Op2 X (compareOp .Is) gIs := op2_of fun pins sh σ H as s x y dx dy v u Q I rl r1 r2 rx ry h => by
 unfold gIs at h
 split at h
 ·cases r2.non_inv
  refine op_isN pins sh σ H _ _ v u Q I rx ry ⟨rfl, ?_⟩
  rw [isN_V r1]
  exact Dn.now (Q := Q) h rl (.da (.bl _))
 ·exact h.elim
theorem o_isnot : Op2 X (compareOp .IsNot) gIsNot := op2_of fun pins sh σ H as s x y dx dy v u Q I rl r1 r2 rx ry h => by
 unfold gIsNot at h
 split at h
 ·cases r2.non_inv
  refine op_notN pins sh σ H _ _ v u Q I rx ry ⟨rfl, ?_⟩
  rw [isN_V r1]
  exact Dn.now (Q := Q) h rl (.da (.bl _))
 ·exact h.elim
noncomputable def fNeg (f : FE) : FE := fun ρ s => (f ρ s).bind fun d s1 => match d with
 | .int i => .ok (.int (-i)) s1
 | _ => .bad
theorem re_neg {a : Expr} {fa : FE} {pos : Pos} (h : RE X a fa) : RE X (.UnaryOp .USub a pos) (fNeg fa) := by
 obtain ⟨t, p, r⟩ := h.ex
 refine ⟨_, pe_un un_neg p, fun as σ H ρ s Q rl en h => ?_⟩
 refine r as σ H ρ s _ rl en (Dn.bind h fun d s1 as1 H1 v st1 rl1 r1 h1 => ?_)
 split at h1
 ·cases r1.int_inv
  exact ⟨_, rfl, Dn.now (Q := Q) h1 rl1 (.da (.int _))⟩
 ·exact h1.elim
end
end PF
namespace PF
open PySem PySem.Spec
open L2
section
variable {X : Cx} {K : PySem.W.Frag} {as : As} {H : Hp}
noncomputable def seqD (s : S) : D -> Option (List D)
 | .lst ds => some (ds.map D.da)
 | .tup ds => some (ds.map D.da)
 | .con ds => some (ds.map D.da)
 | .frz ds => some (ds.map D.da)
 | .ref n => match s[n]? with
  | some (.lst ds) => some ds
  | _ => none
 | _ => none
theorem seq_ok {s : S} {v : V} {d : D} {ds : List D} (rl : Rel K as H s) (r : RD K as H v d) (h : seqD s d = some ds) : ∃ p xs, v = .ref p /\ (SqL K H p xs \/ SqT K H p xs) /\ RDs K as H xs ds := by
 cases r with
 | da t =>
  cases t with
  | lst n e q => cases h; exact ⟨_, _, rfl, .inl (SqL.of e), q.rd⟩
  | tup n e q => cases h; exact ⟨_, _, rfl, .inr (SqT.of e), q.rd⟩
  | _ => cases h
 | con q r => cases h; exact ⟨_, _, rfl, .inr (q H), r.rd⟩
 | frz q r => cases h; exact ⟨_, _, rfl, .inl (q as H (Step.refl _ _).toStep0), r.rd⟩
 | @ref p n l hr =>
  have h : (match s[n]? with | some (O.lst ds) => some ds | _ => none) = some ds := h
  split at h
  ·rename_i ys e
   cases h
   obtain ⟨_, xs, hx, rs⟩ := ref_list rl hr e
   exact ⟨p, xs, rfl, .inl (SqL.of hx), rs⟩
  ·cases h
 | _ => cases h
theorem RDs.atI {xs : List V} {ds : List D} {i : Int} {d : D} (r : RDs K as H xs ds) (h : atI ds i = some d) : ∃ v, atI xs i = some v /\ RD K as H v d := by
 unfold L2.atI at h ⊢
 rw [r.length]
 cases q : ixN ds.length i with
 | none => rw [q] at h; cases h
 | some j =>
  rw [q] at h
  obtain ⟨v, hv, rv⟩ := r.get (show ds[j]? = some d from h)
  exact ⟨v, hv, rv⟩
noncomputable def gIx (dx dy : D) (s : S) : R D := match dx, dy with
 | .str z, .int i => if z.length <= sizeLine then match atI z.cps.toList i with
   | some c => .ok (.str ⟨#[c]⟩) s
   | none => .bad
  else .bad
 | dx, .int i => match seqD s dx with
  | some ds => match atI ds i with
   | some d => .ok d s
   | none => .bad
  | none => .bad
 | _, _ => .bad
theorem ref_ix : Ref2 K (rIx K) gIx := by
 intro as H s x y dx dy Q rl r1 r2 h
 unfold gIx at h
 split at h
 ·rename_i z i
  cases r1.str_inv; cases r2.int_inv
  split at h
  ·rename_i hz
   split at h
   ·rename_i c e
    exact .inr (.inr ⟨z, i, c, rfl, rfl, hz, e, Dn.now (Q := Q) h rl (.da (.str _))⟩)
   ·exact h.elim
  ·exact h.elim
 ·rename_i i _
  cases r2.int_inv
  split at h
  ·rename_i ds e
   split at h
   ·rename_i d e2
    obtain ⟨p, xs, rfl, sq, rs⟩ := seq_ok rl r1 e
    obtain ⟨v, hv, rv⟩ := rs.atI e2
    rcases sq with sq | sq
    ·exact .inl ⟨p, xs, i, v, rfl, rfl, sq, hv, Dn.now (Q := Q) h rl rv⟩
    ·exact .inr (.inl ⟨p, xs, i, v, rfl, rfl, sq, hv, Dn.now (Q := Q) h rl rv⟩)
   ·exact h.elim
  ·exact h.elim
 ·exact h.elim
theorem re_ix {a b : Expr} {fa fb : FE} {pos : Pos} (ha : RE X a fa) (hb : RE X b fb) (hs : PlainIx b := by exact fun _ _ => rfl) : RE X (.Subscript a b pos) (fOp gIx fa fb) := by
 obtain ⟨ta, pa, ra⟩ := ha.ex
 obtain ⟨tb, pb, rb⟩ := hb.ex
 exact ⟨_, pe_ix ix_seq pa pb hs, ref_op ref_ix ra rb⟩
noncomputable def cutL {α : Type} (xs : List α) (lo hi : Option Int) : List α := (xs.drop (HT.sIx xs.length 0 lo)).take (HT.sIx xs.length xs.length hi - HT.sIx xs.length 0 lo)
theorem RDs.cut {xs : List V} {ds : List D} (r : RDs K as H xs ds) (lo hi : Option Int) : RDs K as H (cutV xs lo hi) (cutL ds lo hi) := by
 unfold cutV cutL
 rw [r.length]
 exact (r.drop _).take _
theorem TDs.cut {xs : List V} {ds : List PyData} (r : TDs as H xs ds) (lo hi : Option Int) : TDs as H (cutV xs lo hi) (cutL ds lo hi) := by
 unfold cutV cutL
 rw [r.length]
 exact (r.drop _).take _
noncomputable def cutS (z : Str) (lo hi : Option Int) : Str := if ((Builtin.Str.strSliceIndices lo hi 1 z.length).length == z.length) = true then z else ⟨((Builtin.Str.strSliceIndices lo hi 1 z.length).filterMap (z.cps[·]?)).toArray⟩
noncomputable def rSlX : V -> Option Int -> Option Int -> Hp -> VK -> Prop := fun x lo hi H Q => ∃ z, x = .str z /\ z.length <= sizeLine /\ Q (.str (cutS z lo hi)) H
theorem sl_strX : SlR X rSlX := by
 intro pins s σ H x v vl vu lo hi sl Q I rx hs pl pu h
 obtain ⟨z, rfl, hz, q⟩ := h
 obtain ⟨t, rfl⟩ := rx
 obtain ⟨l, rfl, el⟩ := part_of pl
 obtain ⟨u, rfl, eu⟩ := part_of pu
 refine ⟨"str", _, PySem.F.slot_str_getitem.lookup, rfl, ?_⟩
 have hs' : s.heap.IsSlice sl l u none := by
  obtain ⟨o, ho, hc, hd⟩ := hs
  exact ⟨o, ho, hc, hd⟩
 refine wpAny_getItem_str_slice hs' rfl ?_
 have ep : slicePicked z l u none = Builtin.Str.strSliceIndices lo hi 1 z.length := by
  unfold slicePicked
  rw [el, eu]; rfl
 have hlen : (slicePicked z l u none).length <= z.length := sliceIndices_le _ _ _
 have hfl : ((slicePicked z l u none).filterMap (z.cps[·]?)).length <= z.length := Nat.le_trans (List.length_filterMap_le _ _) hlen
 unfold cutS at q
 rw [← ep] at q
 unfold sliceMade
 split
 ·rename_i c
  rw [if_pos (by simpa using c)] at q
  exact ⟨.str z, H, I, ⟨t, rfl⟩, q⟩
 ·rename_i c
  rw [if_neg (by simpa using c)] at q
  have len : (⟨((slicePicked z l u none).filterMap (z.cps[·]?)).toArray⟩ : Str).length <= z.length := by
   show (((slicePicked z l u none).filterMap (z.cps[·]?)).toArray).size <= z.length
   rw [List.size_toArray]; exact hfl
  exact ⟨Nat.le_trans len hz, .str _, H, I.tok _, ⟨_, rfl⟩, q⟩
noncomputable def gSl (m : Bool) (d : D) (lo hi : Option Int) (s : S) : R D := match d with
 | .str z => if z.length <= sizeLine then .ok (.str (cutS z lo hi)) s else .bad
 | .tup ds => .ok (.tup (cutL ds lo hi)) s
 | .frz ds => newL m (cutL (ds.map D.da) lo hi) s
 | d => match toL s d with
  | some ds => newL m (cutL ds lo hi) s
  | none => .bad
noncomputable abbrev FO := En -> S -> R (Option Int)
noncomputable def fNo : FO := fun _ s => .ok none s
noncomputable def fSome (f : FE) : FO := fun ρ s => (f ρ s).bind fun d s1 => match d with
 | .int i => .ok (some i) s1
 | _ => .bad
noncomputable def RefO (K : PySem.W.Frag) (t : TO) (f : FO) : Prop := ∀ as σ H ρ s Q, Rel K as H s -> Envs K as H ρ σ -> Dn K (fun _ _ (b a : Option Int) => b = a) as H (f ρ s) Q -> t σ H Q
structure ROp (X : Cx) (e : Option Expr) (f : FO) : Prop where
 ex : ∃ t, PO X e t /\ RefO X.K t f
theorem ro_none : ROp X none fNo := ⟨_, po_none, fun as σ H ρ s Q rl en h => Dn.now (Q := Q) h rl rfl⟩
theorem ro_some {a : Expr} {fa : FE} (h : RE X a fa) : ROp X (some a) (fSome fa) := by
 obtain ⟨t, p, r⟩ := h.ex
 refine ⟨_, po_some p, fun as σ H ρ s Q rl en h => ?_⟩
 refine r as σ H ρ s _ rl en (Dn.bind h fun d s1 as1 H1 v st1 rl1 r1 h1 => ?_)
 split at h1
 ·cases r1.int_inv
  exact ⟨_, rfl, Dn.now (Q := Q) h1 rl1 rfl⟩
 ·exact h1.elim
noncomputable def fSl (m : Bool) (f : FE) (lo hi : FO) : FE := fun ρ s => (f ρ s).bind fun d s1 => (lo ρ s1).bind fun l s2 => (hi ρ s2).bind fun u s3 => gSl m d l u s3
theorem re_slice (m : Bool) {a : Expr} {lo hi : Option Expr} {fa : FE} {fl fu : FO} {p2 pos : Pos} (ha : RE X a fa) (hl : ROp X lo fl) (hu : ROp X hi fu) : RE X (.Subscript a (.Slice lo hi none p2) pos) (fSl m fa fl fu) := by
 obtain ⟨ta, pa, ra⟩ := ha.ex
 obtain ⟨tl, pl, rl'⟩ := hl.ex
 obtain ⟨tu, pu, ru⟩ := hu.ex
 refine ⟨_, pe_slice (sl_strX.or (sl_tupA.or sl_listN)) pa pl pu, fun as σ H ρ s Q rl en h => ?_⟩
 refine ra as σ H ρ s _ rl en (Dn.bind h fun d s1 as1 H1 v st1 rl1 r1 h1 => ?_)
 refine rl' as1 σ H1 ρ s1 _ rl1 (en.mono st1) (Dn.bind h1 fun l s2 as2 H2 l' st2 rl2 e2 h2 => ?_)
 have e2 : l' = l := e2
 subst e2
 refine ru as2 σ H2 ρ s2 _ rl2 ((en.mono st1).mono st2) (Dn.bind h2 fun u s3 as3 H3 u' st3 rl3 e3 h3 => ?_)
 have e3 : u' = u := e3
 subst e3
 have r1 := (r1.mono st2).mono st3
 unfold gSl at h3
 split at h3
 ·cases r1.str_inv
  split at h3
  ·rename_i hz
   exact .inl ⟨_, rfl, hz, Dn.now (Q := Q) h3 rl3 (.da (.str _))⟩
  ·exact h3.elim
 ·obtain ⟨p, xs, rfl, n, e, t⟩ := r1.tup_inv
  refine .inr (.inl ⟨p, xs, rfl, SqT.of e, fun c => ?_, fun q H' nw => ?_⟩)
  ·have t2 := t.cut l' u'
   rw [c] at t2
   exact Dn.now (Q := Q) h3 rl3 (.da (.tup n e t2))
  ·exact h3 (.ref q) as3 H' (step_new nw) (rl3.new nw) (.da (.tup (fun z => rl3.has z nw.no) nw.at ((t.cut l' u').mono (step_new nw))))
 ·cases r1 with
  | frz q t => exact .inr (.inr ⟨_, _, rfl, q as3 H3 (Step.refl _ _).toStep0, fun r H' nw => newL_ok h3 rl3 (t.rd.cut l' u') nw⟩)
 ·split at h3
  ·rename_i ds e
   obtain ⟨p, xs, rfl, hx, rs⟩ := toL_ok rl3 r1 e
   exact .inr (.inr ⟨p, xs, rfl, SqL.of hx, fun r H' nw => newL_ok h3 rl3 (rs.cut l' u') nw⟩)
  ·exact h3.elim
noncomputable def gTru (d : D) (s : S) : R Bool := match d with
 | .non => .ok false s
 | .bl b => .ok b s
 | .int i => .ok (i != 0) s
 | .str z => if z.length <= sizeLine then .ok ((z.length : Int) != 0) s else .bad
 | d => match seqD s d with
  | some ds => .ok (!ds.isEmpty) s
  | none => .bad
noncomputable def fTru (f : FE) : FT := fun ρ s => (f ρ s).bind gTru
theorem RDs.empty {xs : List V} {ds : List D} (r : RDs K as H xs ds) : xs.isEmpty = ds.isEmpty := by cases r <;> rfl
theorem rt_tru {a : Expr} {fa : FE} (h : RE X a fa) (he : ∀ whole, isTrue a X.env whole = (do let v ← whole; standAt a.pos; holding [v] (truthy v)) := by exact fun _ => rfl) : RT X a (fTru fa) := by
 obtain ⟨t, p, r⟩ := h.ex
 refine ⟨_, pt_truth p he, fun as σ H ρ s Q rl en h => ?_⟩
 refine r as σ H ρ s _ rl en (Dn.bind h fun d s1 as1 H1 v st1 rl1 r1 h1 => ?_)
 unfold gTru at h1
 split at h1
 ·cases r1.non_inv; exact ⟨false, rfl, Dn.now (Q := Q) h1 rl1 rfl⟩
 ·cases r1.bl_inv; exact ⟨_, rfl, Dn.now (Q := Q) h1 rl1 rfl⟩
 ·cases r1.int_inv; exact ⟨_, rfl, Dn.now (Q := Q) h1 rl1 rfl⟩
 ·cases r1.str_inv
  split at h1
  ·rename_i hz
   exact ⟨_, ⟨hz, rfl⟩, Dn.now (Q := Q) h1 rl1 rfl⟩
  ·exact h1.elim
 ·split at h1
  ·rename_i ds e
   obtain ⟨p, xs, rfl, sq, rs⟩ := seq_ok rl1 r1 e
   refine ⟨!xs.isEmpty, ?_, ?_⟩
   ·rcases sq with sq | sq
    ·exact .inl ⟨xs, sq, rfl⟩
    ·exact .inr (.inl ⟨xs, sq, rfl⟩)
   ·rw [rs.empty]; exact Dn.now (Q := Q) h1 rl1 rfl
  ·exact h1.elim
structure CB (X : Cx) (f : Value) (g : FF) : Prop where
 ex : ∃ r, CallR X f r /\ ∀ as H s xs ds Q, Rel X.K as H s -> RDs X.K as H xs ds -> Dn X.K (rD X.K) as H (g ds s) Q -> r xs H Q
theorem cb_of {f : Value} {g : FF} (h : ∀ (pins : List (Addr × Obj)) (sh : Shared) (σ : St) (H : Hp) (as : As) (s : S) (xs : List V) (ds : List D) (us : List Value) (Q : VK), Inv X pins σ H sh -> Rel X.K as H s -> RDs X.K as H xs ds -> Vals xs us ->
  Dn X.K (rD X.K) as H (g ds s) Q -> wpAny (model X.prog X.w) X.A (call f us) (EP X pins σ Q) X.xe sh) : CB X f g :=
 ⟨fun xs H Q => ∃ as s ds, Rel X.K as H s /\ RDs X.K as H xs ds /\ Dn X.K (rD X.K) as H (g ds s) Q, fun pins sh σ H xs us Q I r ⟨as, s, ds, rl, rs, q⟩ => h pins sh σ H as s xs ds us Q I rl rs r q, fun as H s xs ds Q rl rs q => ⟨as, s, ds, rl, rs, q⟩⟩
noncomputable def fCB (g : FF) (f : FA) : FE := fun ρ s => (f ρ s).bind g
section
variable {x : Str} {id : String} {g : FF} {f : FA} {e : Expr} {es : List Expr} {p pos : Pos}
theorem ref_cb {r : List V -> Hp -> VK -> Prop} {t : TA} (hr : ∀ as H s xs ds Q, Rel K as H s -> RDs K as H xs ds -> Dn K (rD K) as H (g ds s) Q -> r xs H Q) (h : RefA K t f) : RefE K (tCB r t) (fCB g f) := by
 intro as σ H ρ s Q rl en q
 exact h as σ H ρ s _ rl en (Dn.bind q fun ds s1 as1 H1 vs st1 rl1 r1 h1 => hr as1 H1 s1 vs ds Q rl1 r1 h1)
theorem re_cb (c : CB X (.builtin id) g) (hm : X.mg x = none) (hv : bootBuiltins x = some (.builtin id)) (ha : RA X (e :: es) f) (hg : Gl X x := by rfl) (hn : x ≠ "__name__" := by decide) (hdb : (x == ("__debug__" : Str)) = false := by decide)
  (hs : starEach (e :: es) X.env = (false, eval e X.env) :: starEach es X.env := by rfl) (hpl : (backTo pos (starEach es X.env)).any (·.1) = false := by rfl) : RE X (.Call (.Name x p) (e :: es) [] pos) (fCB g f) := by
 obtain ⟨r, hc, hr⟩ := c.ex
 obtain ⟨t, pa, ra⟩ := ha.ex
 exact ⟨_, pe_callB hc hg hm hv pa hn hdb hs hpl, ref_cb hr ra⟩
theorem re_ct (c : CB X (.type id) g) (hm : X.mg x = none) (hv : bootBuiltins x = some (.type id)) (ha : RA X (e :: es) f) (hg : Gl X x := by rfl) (hn : x ≠ "__name__" := by decide) (hdb : (x == ("__debug__" : Str)) = false := by decide)
  (hs : starEach (e :: es) X.env = (false, eval e X.env) :: starEach es X.env := by rfl) (hpl : (backTo pos (starEach es X.env)).any (·.1) = false := by rfl) : RE X (.Call (.Name x p) (e :: es) [] pos) (fCB g f) := by
 obtain ⟨r, hc, hr⟩ := c.ex
 obtain ⟨t, pa, ra⟩ := ha.ex
 exact ⟨_, pe_callTy hc hg hm hv pa hn hdb hs hpl, ref_cb hr ra⟩
end
noncomputable def gLen (ds : List D) (s : S) : R D := match ds with
 | [.str z] => if z.length <= sizeLine then .ok (.int z.length) s else .bad
 | [d] => match seqD s d with
  | some xs => .ok (.int xs.length) s
  | none => .bad
 | _ => .bad
theorem c_len : CB X (.builtin "len") gLen := cb_of fun pins sh σ H as s xs ds us Q I rl rs ru h => by
 unfold gLen at h
 split at h
 ·obtain ⟨v, rfl, rv⟩ := rs.one
  cases rv.str_inv
  split at h
  ·rename_i hz
   exact call_len_str pins sh σ H _ us Q I ru ⟨_, rfl, hz, Dn.now (Q := Q) h rl (.da (.int _))⟩
  ·exact h.elim
 ·obtain ⟨v, rfl, rv⟩ := rs.one
  split at h
  ·rename_i ys e
   obtain ⟨p, zs, rfl, sq, rz⟩ := seq_ok rl rv e
   refine call_len_seq pins sh σ H _ us Q I ru ⟨p, zs, rfl, sq, ?_⟩
   rw [rz.length]
   exact Dn.now (Q := Q) h rl (.da (.int _))
  ·exact h.elim
 ·exact h.elim
noncomputable def gMin (ds : List D) (s : S) : R D := match ds with
 | [.int i, .int j] => .ok (.int (if j < i then j else i)) s
 | _ => .bad
theorem c_min (hc : X.calm = true) : CB X (.builtin "min") gMin := cb_of fun pins sh σ H as s xs ds us Q I rl rs ru h => by
 unfold gMin at h
 split at h
 ·obtain ⟨v, w, rfl, rv, rw⟩ := rs.two
  cases rv.int_inv; cases rw.int_inv
  exact call_min2 hc pins sh σ H _ us Q I ru ⟨_, _, rfl, Dn.now (Q := Q) h rl (.da (.int _))⟩
 ·exact h.elim
noncomputable def gList (m : Bool) (ds : List D) (s : S) : R D := match ds with
 | [d] => match seqD s d with
  | some xs => newL m xs s
  | none => .bad
 | _ => .bad
theorem c_list (m : Bool) : CB X (.type "list") (gList m) := cb_of fun pins sh σ H as s xs ds us Q I rl rs ru h => by
 unfold gList at h
 split at h
 ·obtain ⟨v, rfl, rv⟩ := rs.one
  split at h
  ·rename_i ys e
   obtain ⟨p, zs, rfl, sq, rz⟩ := seq_ok rl rv e
   exact call_listN pins sh σ H _ us Q I ru ⟨p, zs, rfl, sq, fun r H' nw => newL_ok h rl rz nw⟩
  ·exact h.elim
 ·exact h.elim
noncomputable def gTuple (ds : List D) (s : S) : R D := match ds with
 | [.tup xs] => .ok (.tup xs) s
 | [.frz xs] => .ok (.tup xs) s
 | [d] => match toL s d with
  | some xs => newT xs s
  | none => .bad
 | _ => .bad
theorem c_tuple : CB X (.type "tuple") gTuple := cb_of fun pins sh σ H as s xs ds us Q I rl rs ru h => by
 unfold gTuple at h
 split at h
 ·obtain ⟨v, rfl, rv⟩ := rs.one
  obtain ⟨p, zs, rfl, n, e, t⟩ := rv.tup_inv
  exact call_tupleN pins sh σ H _ us Q I ru ⟨p, zs, rfl, .inr ⟨SqT.of e, Dn.now (Q := Q) h rl (.da (.tup n e t))⟩⟩
 ·obtain ⟨v, rfl, rv⟩ := rs.one
  cases rv with
  | frz q t => exact call_tupleN pins sh σ H _ us Q I ru ⟨_, _, rfl, .inl ⟨q as H (Step.refl _ _).toStep0, fun r H' nw => h (.ref r) as H' (step_new nw) (rl.new nw) (.da (.tup (fun z => rl.has z nw.no) nw.at (t.mono (step_new nw))))⟩⟩
 ·obtain ⟨v, rfl, rv⟩ := rs.one
  split at h
  ·rename_i ys e
   obtain ⟨p, zs, rfl, hx, rz⟩ := toL_ok rl rv e
   exact call_tupleN pins sh σ H _ us Q I ru ⟨p, zs, rfl, .inl ⟨SqL.of hx, fun r H' nw => newT_ok h rl rz nw⟩⟩
  ·exact h.elim
 ·exact h.elim
noncomputable def okS (d : PyData) : Bool := d.canLay0 && d.showable && decide (d.depth <= 64) && decide (d.shown.length <= sizeLine)
noncomputable def gRepr (ds : List D) (s : S) : R D := match ds with
 | [d] => match toP s d with
  | some a => if okS a = true then .ok (.str a.shown) s else .bad
  | none => .bad
 | _ => .bad
theorem c_repr {k : Nat} (hr : Room k X.A) : CB X (.builtin "repr") gRepr := cb_of fun pins sh σ H as s xs ds us Q I rl rs ru h => by
 unfold gRepr at h
 split at h
 ·obtain ⟨v, rfl, rv⟩ := rs.one
  obtain ⟨u, rfl, ru1⟩ := vals1 ru
  split at h
  ·rename_i a e
   split at h
   ·rename_i ok
    unfold okS at ok
    (simp only [Bool.and_eq_true, decide_eq_true_eq] at ok)
    obtain ⟨⟨⟨ok1, ok2⟩, ok3⟩, ok4⟩ := ok
    have hun := hr.un
    obtain ⟨bs, q⟩ := rv.reads I rl e ru1
    have fin : Q (.str a.shown) H := Dn.now (Q := Q) h rl (.da (.str _))
    have nd := PyData.hasDict_of_canLay a ok1
    cases q with
    | none => exact PySem.P.repr_of_none ⟨.str "None", H, I.tok _, ⟨_, rfl⟩, fin⟩
    | bool b => exact PySem.P.repr_of_bool ⟨.str (if b then "True" else "False"), H, I.tok _, ⟨_, rfl⟩, fin⟩
    | int i t => exact PySem.P.repr_of_int (by simpa [PyData.showable] using ok2) ⟨.str (toString i), H, I.tok _, ⟨_, rfl⟩, fin⟩
    | str x t => exact PySem.P.repr_of_str ⟨.str (reprText x), H, I.tok _, ⟨_, rfl⟩, fin⟩ (by simpa [PyData.shown] using ok4)
    | tuple k1 k2 k3 k4 => exact repr_of_reads' (.tuple k1 k2 k3 k4) ok2 (fun z => by rw [nd] at z; cases z) hr.gd (by omega) (fun _ _ e => e) (fun h' u tk hk => ⟨.str _, H, I.kept hk, ⟨u, rfl⟩, fin⟩) ok4
    | list k1 k2 k3 k4 => exact repr_of_reads' (.list k1 k2 k3 k4) ok2 (fun z => by rw [nd] at z; cases z) hr.gd (by omega) (fun _ _ e => e) (fun h' u tk hk => ⟨.str _, H, I.kept hk, ⟨u, rfl⟩, fin⟩) ok4
    | dict => cases ok1
   ·exact h.elim
  ·exact h.elim
 ·exact h.elim
end
end PF
namespace PF
open PySem PySem.Spec
open L2
section
variable {X : Cx} {K : PySem.W.Frag} {as : As} {H : Hp}
noncomputable abbrev GM := D -> List D -> S -> R D
noncomputable def fMt (g : GM) (fo : FE) (fa : FA) : FE := fun ρ s => (fo ρ s).bind fun d s1 => if (toL s1 d).isSome = true then (fa ρ s1).bind fun ds s2 => g d ds s2 else .bad
structure MB (X : Cx) (id : String) (g : GM) : Prop where
 ex : ∃ r, MtR X id r /\ ∀ as H s x xs d ds Q, Rel X.K as H s -> RD X.K as H x d -> RDs X.K as H xs ds -> Dn X.K (rD X.K) as H (g d ds s) Q -> r x xs H Q
theorem ty_list {s : S} {v : V} {d : D} (rl : Rel K as H s) (r : RD K as H v d) (h : (toL s d).isSome = true) : tyV K "list" v H := by
 cases e : toL s d with
 | none => rw [e] at h; cases h
 | some ds =>
  obtain ⟨p, xs, rfl, hx, _⟩ := toL_ok rl r e
  exact .inl ⟨rfl, xs, SqL.of hx⟩
theorem re_mt {o e : Expr} {es : List Expr} {fo : FE} {fa : FA} {name : Str} {id : String} {g : GM} {apos cpos : Pos} (slot : Slot "list" name id) (hty : typeOf (.builtin id) = pure (.type "method_descriptor")) (hm : MB X id g) (ho : RE X o fo) (ha : RA X (e :: es) fa)
  (hbase : attributeBase o name X.env (eval o X.env) = eval o X.env := by rfl)
  (hfew : ((backTo cpos (starEach (e :: es) X.env)).all (fun x => !x.1) && (backToKw cpos (keywordEach [] X.env)).all (fun x => x.1.isSome)
   && decide ((e :: es).length + ([] : List Keyword).length + (if ([] : List Keyword).isEmpty then 0 else 1) < 30)) = true := by rfl)
  (hline : (apos.endLine == cpos.line) = true := by rfl) (hs : starEach (e :: es) X.env = (false, eval e X.env) :: starEach es X.env := by rfl) (hplain : (backTo cpos (starEach es X.env)).any (·.1) = false := by rfl) :
  RE X (.Call (.Attribute o name apos) (e :: es) [] cpos) (fMt g fo fa) := by
 obtain ⟨r, hr, hg⟩ := hm.ex
 obtain ⟨to, po, ro⟩ := ho.ex
 obtain ⟨ta, pa, ra⟩ := ha.ex
 refine ⟨_, pe_bm PySem.F.plainAttrs_list slot hty hr po pa hbase hfew hline hs hplain, fun as σ H ρ s Q rl en h => ?_⟩
 refine ro as σ H ρ s _ rl en (Dn.bind h fun d s1 as1 H1 v st1 rl1 r1 h1 => ?_)
 split at h1
 ·rename_i hl
  refine ⟨ty_list rl1 r1 hl, ra as1 σ H1 ρ s1 _ rl1 (en.mono st1) (Dn.bind h1 fun ds s2 as2 H2 vs st2 rl2 r2 h2 => ?_)⟩
  exact hg as2 H2 s2 v vs d ds Q rl2 (r1.mono st2) r2 h2
 ·exact h1.elim
theorem chg_ok {s : S} {p : Addr} {n : Nat} {o : HO} {H' : Hp} {d : D} {v : V} {ys : List V} {es : List D} {Q : VK} (rl : Rel K as H s) (ha : as.ix[n]? = some (some p)) (c : Chg H p (.lst ys) H') (rs : RDs K as H ys es) (rv : RD K as H v d) (h : Dn K (rD K) as H (.ok d (s.set n (.lst es))) Q) : Q v H' := by
 have st := step_chg (mem_as.mpr ⟨n, ha⟩) (fun z => rl.hx p z (mem_as.mpr ⟨n, ha⟩)) c
 exact h v as H' st (rl.chg ha c ⟨ys, c.at, rs.mono st⟩) (rv.mono st)
noncomputable def onL (d : D) (s : S) (k : Nat -> List D -> R D) : R D := match d with
 | .ref n => match s[n]? with
  | some (.lst ds) => k n ds
  | _ => .bad
 | _ => .bad
theorem onL_ok {s : S} {d : D} {v : V} {k : Nat -> List D -> R D} {Q : VK} (rl : Rel K as H s) (r : RD K as H v d) (h : Dn K (rD K) as H (onL d s k) Q) : ∃ p n xs ds, v = .ref p /\ as.ix[n]? = some (some p) /\ H p = some (.lst xs) /\ RDs K as H xs ds /\ Dn K (rD K) as H (k n ds) Q := by
 cases r with
 | @ref p n l hr =>
  have h : Dn K (rD K) as H (match s[n]? with | some (O.lst ds) => k n ds | _ => .bad) Q := h
  split at h
  ·rename_i ds e
   obtain ⟨ha, xs, hx, rs⟩ := ref_list rl hr e
   exact ⟨p, n, xs, ds, rfl, ha, hx, rs, h⟩
  ·exact h.elim
 | _ => exact h.elim
noncomputable def gAppend : GM := fun d ds s => match ds with
 | [x] => onL d s fun n xs => if xs.length < sizeLine then .ok .non (s.set n (.lst (xs ++ [x]))) else .bad
 | _ => .bad
theorem m_append : MB X "list.append" gAppend := ⟨_, mt_appendN, fun as H s x xs d ds Q rl r rs h => by
 unfold gAppend at h
 split at h
 ·obtain ⟨v, rfl, rv⟩ := rs.one
  obtain ⟨p, n, ys, es, rfl, ha, hy, re, h⟩ := onL_ok rl r h
  split at h
  ·rename_i hz
   exact ⟨p, ys, v, rfl, rfl, hy, by rw [re.length]; exact hz, fun H' c => chg_ok (o := .lst []) rl ha c (re.append (.cons rv .nil)) (.da .non) h⟩
  ·exact h.elim
 ·exact h.elim⟩
noncomputable def gPopAt : GM := fun d ds s => match ds with
 | [.int i] => onL d s fun n xs => if -(2 ^ 63) <= i /\ i < 2 ^ 63 then match seqIndex? i xs.length with
   | some k => match xs[k]? with
    | some y => .ok y (s.set n (.lst (xs.eraseIdx k)))
    | none => .bad
   | none => .bad
  else .bad
 | _ => .bad
theorem m_popAt : MB X "list.pop" gPopAt := ⟨_, mt_popAtN, fun as H s x xs d ds Q rl r rs h => by
 unfold gPopAt at h
 split at h
 ·obtain ⟨v, rfl, rv⟩ := rs.one
  cases rv.int_inv
  obtain ⟨p, n, ys, es, rfl, ha, hy, re, h⟩ := onL_ok rl r h
  split at h
  ·rename_i hz
   split at h
   ·rename_i k e
    split at h
    ·rename_i y ey
     obtain ⟨w, hw, rw⟩ := re.get ey
     exact ⟨p, ys, _, k, w, rfl, rfl, hy, hz.1, hz.2, by rw [re.length]; exact e, hw, fun H' c => chg_ok (o := .lst []) rl ha c (re.eraseIdx k) rw h⟩
    ·exact h.elim
   ·exact h.elim
  ·exact h.elim
 ·exact h.elim⟩
noncomputable def gExtend : GM := fun d ds s => match ds with
 | [.tup ys] => onL d s fun n xs => if xs.length + ys.length <= sizeLine then .ok .non (s.set n (.lst (xs ++ ys.map D.da))) else .bad
 | [e] => match toL s e with
  | some ys => onL d s fun n xs => if xs.length + ys.length <= sizeLine then .ok .non (s.set n (.lst (xs ++ ys))) else .bad
  | none => .bad
 | _ => .bad
theorem mt_or {id : String} {r r' : V -> List V -> Hp -> VK -> Prop} (h : MtM X id r) (h' : MtM X id r') : MtR X id (fun x xs H Q => r x xs H Q \/ r' x xs H Q) := MtR.or h h'
theorem m_extend : MB X "list.extend" gExtend := ⟨_, mt_or mt_extendN mt_extendTN, fun as H s x xs d ds Q rl r rs h => by
 unfold gExtend at h
 split at h
 ·obtain ⟨v, rfl, rv⟩ := rs.one
  obtain ⟨p, n, ys, es, rfl, ha, hy, re, h⟩ := onL_ok rl r h
  split at h
  ·rename_i hz
   obtain ⟨q, zs, rfl, _, e, t⟩ := rv.tup_inv
   exact .inr ⟨p, q, ys, zs, rfl, rfl, hy, SqT.of e, by rw [re.length, t.length]; exact hz, fun H' c => chg_ok (o := .lst []) rl ha c (re.append t.rd) (.da .non) h⟩
  ·exact h.elim
 ·obtain ⟨v, rfl, rv⟩ := rs.one
  split at h
  ·rename_i zs e
   obtain ⟨q, ws, rfl, hq, rz⟩ := toL_ok rl rv e
   obtain ⟨p, n, ys, es, rfl, ha, hy, re, h⟩ := onL_ok rl r h
   split at h
   ·rename_i hz
    exact .inl ⟨p, q, ys, ws, rfl, rfl, hy, hq, by rw [re.length, rz.length]; exact hz, fun H' c => chg_ok (o := .lst []) rl ha c (re.append rz) (.da .non) h⟩
   ·exact h.elim
  ·exact h.elim
 ·exact h.elim⟩
noncomputable def gSet (o i v : D) (s : S) : R D := match i with
 | .int k => onL o s fun n xs => match ixN xs.length k with
  | some j => .ok .non (s.set n (.lst (xs.set j v)))
  | none => .bad
 | _ => .bad
noncomputable def fSetIt (fv fo fi : FE) : FS := fun ρ s => (fv ρ s).bind fun v s1 => (fo ρ s1).bind fun o s2 => (fi ρ s2).bind fun i s3 => (gSet o i v s3).bind fun _ s4 => .ok (.nx ρ) s4
theorem rs_sub {o i e : Expr} {fo fi fv : FE} {pos pos' : Pos} (he : RE X e fv) (ho : RE X o fo) (hi : RE X i fi) (ha : ∀ v, assign (.Subscript o i pos') X.env v = (do
   let ov ← holding [v] (eval o X.env)
   let iv ← holding [v, ov] (eval i X.env)
   standAt pos'
   holding [v, ov, iv] (setItem ov iv v)
   release [v, ov, iv] []) := by intro _; rfl) (hs : swapsWithSole [.Subscript o i pos'] e pos.line X.env = pure false := by rfl) (hw : swappedStores [.Subscript o i pos'] e X.env = pure none := by rfl)
  (h1 : (assignEach [.Subscript o i pos'] X.env).map (·.2) = [assign (.Subscript o i pos') X.env] := by rfl) : RS X (.Assign [.Subscript o i pos'] e pos) (fSetIt fv fo fi) := by
 obtain ⟨te, pe, re⟩ := he.ex
 obtain ⟨to, po, ro⟩ := ho.ex
 obtain ⟨ti, pi, ri⟩ := hi.ex
 refine ⟨_, ps_asg pe (pg_sub po pi set_listN ha) hs hw h1, fun as σ H ρ s D rl en h => ?_⟩
 refine re as σ H ρ s _ rl en (Dn.bind h fun v s1 as1 H1 vv st1 rl1 r1 h1 => ?_)
 refine ro as1 σ H1 ρ s1 _ rl1 (en.mono st1) (Dn.bind h1 fun o s2 as2 H2 ov st2 rl2 r2 h2 => ?_)
 refine ri as2 σ H2 ρ s2 _ rl2 ((en.mono st1).mono st2) (Dn.bind h2 fun i s3 as3 H3 iv st3 rl3 r3 h3 => ?_)
 have en3 := ((en.mono st1).mono st2).mono st3
 have h3 : Dn X.K (rD X.K) as3 H3 (gSet o i v s3) (fun _ H' => D.nx σ H') := Dn.bind h3 fun d s4 as4 H4 vv st4 rl4 r4 h4 => Dn.now (b := FV.nx σ) h4 rl4 (.nx (en3.mono st4))
 unfold gSet at h3
 split at h3
 ·cases r3.int_inv
  obtain ⟨p, n, xs, ds, rfl, ha, hx, rs, h3⟩ := onL_ok rl3 (r2.mono st3) h3
  split at h3
  ·rename_i j e
   refine ⟨p, xs, _, j, rfl, rfl, hx, by rw [rs.length]; exact e, fun H' c => ?_⟩
   exact chg_ok (v := .non) (o := .lst []) rl3 ha c (rs.set j ((r1.mono st2).mono st3)) (.da .non) h3
  ·exact h3.elim
 ·exact h3.elim
noncomputable def blsD : List D -> Option (List Bool)
 | [] => some []
 | .bl x :: r => match blsD r with
  | some xs => some (x :: xs)
  | none => none
 | _ => none
theorem bls_ok : ∀ {xs : List V} {ds : List D} {bs : List Bool}, RDs K as H xs ds -> blsD ds = some bs -> xs = bs.map V.bl
 | _, [], ss, r, h => by cases r; cases h; rfl
 | _, d :: ds, ss, r, h => by
  cases r with
  | cons r rs =>
   unfold blsD at h
   split at h
   ·rename_i e; cases e
   ·rename_i x rr e
    cases e
    split at h
    ·rename_i ys e2
     cases h
     have h1 := bls_ok rs e2
     cases r.bl_inv
     rw [h1]; rfl
    ·cases h
   ·cases h
noncomputable def gAll (ds : List D) (s : S) : R D := match ds with
 | [d] => match (toL s d).bind blsD with
  | some bs => .ok (.bl (bs.all id)) s
  | none => .bad
 | _ => .bad
theorem c_all (hc : X.calm = true) : CB X (.builtin "all") gAll := cb_of fun pins sh σ H as s xs ds us Q I rl rs ru h => by
 unfold gAll at h
 split at h
 ·obtain ⟨v, rfl, rv⟩ := rs.one
  split at h
  ·rename_i bs e
   cases e2 : toL s _ with
   | none => rw [e2] at e; cases e
   | some ys =>
    rw [e2] at e
    obtain ⟨p, zs, rfl, hx, rz⟩ := toL_ok rl rv e2
    have ez := bls_ok rz (show blsD ys = some bs from e)
    subst ez
    exact call_allL hc pins sh σ H _ us Q I ru ⟨p, bs, rfl, SqL.of hx, Dn.now (Q := Q) h rl (.da (.bl _))⟩
  ·exact h.elim
 ·exact h.elim
end
end PF
namespace PF
open PySem PySem.Spec
open L2
theorem u64 {A : Around} {k : Nat} (hr : Room k A) : A.units + 64 < cLine := by have := hr.un; omega
theorem u65 {A : Around} {k : Nat} (hr : Room k A) : A.units + 65 < cLine := by have := hr.un; omega
section
variable {X : Cx}
theorem tds_strs {as : As} {H : Hp} : ∀ ss : List Str, TDs as H (ss.map V.str) (ss.map PyData.str)
 | [] => .nil
 | s :: r => .cons (.str s) (tds_strs r)
theorem re_conS {x : Str} {vs : List V} {pos : Pos} (ss : List Str) (c : ConT X.K X.mg x vs) (e : vs = ss.map V.str := by rfl) (hg : Gl X x := by rfl) (hd : (x == ("__debug__" : Str)) = false := by decide) : RE X (.Name x pos) (fC (.con (ss.map PyData.str))) := by
 obtain ⟨a, hm, hs⟩ := c
 subst e
 exact re_glob (v := .ref a) (fun as H => .con hs (tds_strs ss)) hm rfl hg hd
end
end PF
namespace PF
open PySem PySem.Spec
open L2
noncomputable def R.Wk {α β : Type} (f : α -> S -> R β) (Q : β -> S -> Prop) (a : α) (s : S) : Prop := (f a s).W Q
theorem R.W_bindk {α β : Type} (r : R α) (f : α -> S -> R β) (Q : β -> S -> Prop) : (r.bind f).W Q = r.W (R.Wk f Q) := R.W_bind r f Q
@[simp] theorem R.Wk_app {α β : Type} (f : α -> S -> R β) (Q : β -> S -> Prop) (a : α) (s : S) : R.Wk f Q a s = (f a s).W Q := (rfl)
section
variable {s : S} {m : Bool} {n : Nat} {i j : Int} {x y : Str} {b : Bool} {xs ys : List PyData} {ds es : List D} {d e : D} {ρ : En} {Q : D -> S -> Prop}
theorem sizeLine_eq' : sizeLine = 16777216 := sizeLine_eq
@[simp] theorem gAdd_int : gAdd m (.int i) (.int j) s = .ok (.int (i + j)) s := (rfl)
theorem gAdd_str (h : x.length + y.length <= 16777216) : gAdd m (.str x) (.str y) s = .ok (.str (x ++ y)) s := if_pos (by rw [sizeLine_eq']; exact h)
theorem gAdd_tup (h : xs.length + ys.length <= 16777216) : gAdd m (.tup xs) (.tup ys) s = .ok (.tup (xs ++ ys)) s := if_pos (by rw [sizeLine_eq']; exact h)
theorem gAdd_lst (h : xs.length + ys.length <= 16777216) : gAdd false (.lst xs) (.lst ys) s = .ok (.lst (xs ++ ys)) s := by
 show (if (xs.map D.da).length + (ys.map D.da).length <= sizeLine then newL false (xs.map D.da ++ ys.map D.da) s else .bad) = _
 rw [if_pos (by rw [sizeLine_eq', List.length_map, List.length_map]; exact h), ← List.map_append]
 show (match pures _ with | some xs => R.ok (D.lst xs) s | none => .bad) = _
 rw [pures_da]
@[simp] theorem gSub_int : PF.gSub (.int i) (.int j) s = .ok (.int (i - j)) s := (rfl)
theorem gMul_int (h : (-(2 ^ 64) < i /\ i < 2 ^ 64) \/ (-(2 ^ 64) < j /\ j < 2 ^ 64)) : gMul (.int i) (.int j) s = .ok (.int (i * j)) s := if_pos h
theorem gDiv_int (h : 0 < j) (h2 : j < 1073741824) : gDiv (.int i) (.int j) s = .ok (.int (i / j)) s := if_pos ⟨h, h2⟩
theorem gMod_int (h : 0 < j) : gMod (.int i) (.int j) s = .ok (.int (i % j)) s := if_pos h
theorem gPow_int (h : 0 <= j) (h1 : j <= 1000000) (h2 : i.natAbs < 2 ^ 64) : gPow (.int i) (.int j) s = .ok (.int (i ^ j.toNat)) s := if_pos ⟨h, h1, h2⟩
@[simp] theorem gLe_int : gLe (.int i) (.int j) s = .ok (.bl (decide (i <= j))) s := (rfl)
@[simp] theorem gGt_int : gGt (.int i) (.int j) s = .ok (.bl (decide (j < i))) s := (rfl)
@[simp] theorem gGe_int : gGe (.int i) (.int j) s = .ok (.bl (decide (j <= i))) s := (rfl)
@[simp] theorem gIs_non : gIs d .non s = .ok (.bl (isN d)) s := (rfl)
@[simp] theorem gIsNot_non : gIsNot d .non s = .ok (.bl (!isN d)) s := (rfl)
theorem beq_strs (x y : Str) : PyData.eqv (.str x) (.str y) = decide (x = y) := by
 show (x == y) = _
 (rw [Bool.eq_iff_iff, beq_iff_eq, decide_eq_true_eq])
theorem gEq_da {p q : PyData} (h1 : okD p = true) (h2 : okD q = true) : gEq (.da p) (.da q) s = .ok (.bl (PyData.eqv p q)) s := by
 have e : gEqD (.da p) (.da q) s = .ok (.bl (PyData.eqv p q)) s := if_pos ⟨h1, h2⟩
 cases p <;> cases q <;> first | exact e | (rw [beq_strs]; rfl)
theorem gEq_s : gEq (.str x) (.str y) s = .ok (.bl (decide (x = y))) s := (rfl)
theorem gNe_s : gNe (.str x) (.str y) s = .ok (.bl (!decide (x = y))) s := (rfl)
theorem gNe_da {p q : PyData} (h1 : okD p = true) (h2 : okD q = true) : gNe (.da p) (.da q) s = .ok (.bl (!PyData.eqv p q)) s := by
 have e : gNeD (.da p) (.da q) s = .ok (.bl (!PyData.eqv p q)) s := if_pos ⟨h1, h2⟩
 cases p <;> cases q <;> first | exact e | (rw [beq_strs]; rfl)
theorem gIx_ref {k : Nat} (h : s[n]? = some (.lst ds)) (h2 : ds[k]? = some d) : gIx (.ref n) (.int (k : Int)) s = .ok d s := by
 show (match (match s[n]? with | some (O.lst ds) => some ds | _ => none) with | some ds => (match atI ds (k : Int) with | some d => R.ok d s | none => .bad) | none => .bad) = _
 rw [h]
 show (match atI ds (k : Int) with | some d => R.ok d s | none => .bad) = _
 rw [atI_nat h2]
theorem gIx_tup {k : Nat} {p : PyData} (h2 : xs[k]? = some p) : gIx (.tup xs) (.int (k : Int)) s = .ok (.da p) s := by
 show (match atI (xs.map D.da) (k : Int) with | some d => R.ok d s | none => .bad) = _
 rw [atI_nat (v := D.da p) (by rw [List.getElem?_map, h2]; rfl)]
theorem gIx_lst {k : Nat} {p : PyData} (h2 : xs[k]? = some p) : gIx (.lst xs) (.int (k : Int)) s = .ok (.da p) s := by
 show (match atI (xs.map D.da) (k : Int) with | some d => R.ok d s | none => .bad) = _
 rw [atI_nat (v := D.da p) (by rw [List.getElem?_map, h2]; rfl)]
theorem gSet_ref {k : Nat} (h : s[n]? = some (.lst ds)) (h2 : k < ds.length) : gSet (.ref n) (.int (k : Int)) d s = .ok .non (s.set n (.lst (ds.set k d))) := by
 show (match s[n]? with | some (O.lst xs) => (match ixN xs.length (k : Int) with | some j => R.ok D.non (s.set n (.lst (xs.set j d))) | none => .bad) | _ => .bad) = _
 rw [h]
 have : ixN ds.length (k : Int) = some k := by
  unfold ixN
  rw [if_pos (by omega), if_pos (by omega)]
  rfl
 show (match ixN ds.length (k : Int) with | some j => R.ok D.non (s.set n (.lst (ds.set j d))) | none => .bad) = _
 rw [this]
noncomputable def kOp1 (g : D -> D -> S -> R D) (fb : FE) (ρ : En) (x : D) (s : S) : R D := (fb ρ s).bind fun y s2 => g x y s2
noncomputable def kOp2 (g : D -> D -> S -> R D) (x y : D) (s : S) : R D := g x y s
@[simp] theorem e_op {g : D -> D -> S -> R D} {fa fb : FE} : fOp g fa fb ρ s = (fa ρ s).bind (kOp1 g fb ρ) := (rfl)
@[simp] theorem e_op1 {g : D -> D -> S -> R D} {fb : FE} : kOp1 g fb ρ d s = (fb ρ s).bind (kOp2 g d) := (rfl)
@[simp] theorem e_op2 {g : D -> D -> S -> R D} : kOp2 g d e s = g d e s := (rfl)
@[simp] theorem e_c : fC d ρ s = .ok d s := (rfl)
@[simp] theorem e_var0 {r : En} : fVar 0 (some d :: r) s = .ok d s := (rfl)
@[simp] theorem e_var1 {r : En} {x0 : Option D} : fVar 1 (x0 :: some d :: r) s = .ok d s := (rfl)
@[simp] theorem e_var2 {r : En} {x0 x1 : Option D} : fVar 2 (x0 :: x1 :: some d :: r) s = .ok d s := (rfl)
@[simp] theorem e_var3 {r : En} {x0 x1 x2 : Option D} : fVar 3 (x0 :: x1 :: x2 :: some d :: r) s = .ok d s := (rfl)
@[simp] theorem e_var4 {r : En} {x0 x1 x2 x3 : Option D} : fVar 4 (x0 :: x1 :: x2 :: x3 :: some d :: r) s = .ok d s := (rfl)
@[simp] theorem e_var5 {r : En} {x0 x1 x2 x3 x4 : Option D} : fVar 5 (x0 :: x1 :: x2 :: x3 :: x4 :: some d :: r) s = .ok d s := (rfl)
@[simp] theorem e_var6 {r : En} {x0 x1 x2 x3 x4 x5 : Option D} : fVar 6 (x0 :: x1 :: x2 :: x3 :: x4 :: x5 :: some d :: r) s = .ok d s := (rfl)
@[simp] theorem e_var7 {r : En} {x0 x1 x2 x3 x4 x5 x6 : Option D} : fVar 7 (x0 :: x1 :: x2 :: x3 :: x4 :: x5 :: x6 :: some d :: r) s = .ok d s := (rfl)
@[simp] theorem e_var8 {r : En} {x0 x1 x2 x3 x4 x5 x6 x7 : Option D} : fVar 8 (x0 :: x1 :: x2 :: x3 :: x4 :: x5 :: x6 :: x7 :: some d :: r) s = .ok d s := (rfl)
@[simp] theorem e_var9 {r : En} {x0 x1 x2 x3 x4 x5 x6 x7 x8 : Option D} : fVar 9 (x0 :: x1 :: x2 :: x3 :: x4 :: x5 :: x6 :: x7 :: x8 :: some d :: r) s = .ok d s := (rfl)
@[simp] theorem e_var10 {r : En} {x0 x1 x2 x3 x4 x5 x6 x7 x8 x9 : Option D} : fVar 10 (x0 :: x1 :: x2 :: x3 :: x4 :: x5 :: x6 :: x7 :: x8 :: x9 :: some d :: r) s = .ok d s := (rfl)
@[simp] theorem e_var11 {r : En} {x0 x1 x2 x3 x4 x5 x6 x7 x8 x9 x10 : Option D} : fVar 11 (x0 :: x1 :: x2 :: x3 :: x4 :: x5 :: x6 :: x7 :: x8 :: x9 :: x10 :: some d :: r) s = .ok d s := (rfl)
@[simp] theorem e_var12 {r : En} {x0 x1 x2 x3 x4 x5 x6 x7 x8 x9 x10 x11 : Option D} : fVar 12 (x0 :: x1 :: x2 :: x3 :: x4 :: x5 :: x6 :: x7 :: x8 :: x9 :: x10 :: x11 :: some d :: r) s = .ok d s := (rfl)
noncomputable def kSeq (g : FS) (fl : Fl) (s : S) : R Fl := match fl with
 | .nx ρ1 => g ρ1 s
 | fl => .ok fl s
@[simp] theorem e_seq {f g : FS} : fSeq f g ρ s = (f ρ s).bind (kSeq g) := (rfl)
@[simp] theorem e_seqn {g : FS} : kSeq g (.nx ρ) s = g ρ s := (rfl)
@[simp] theorem e_seqr {g : FS} : kSeq g (.rt d) s = .ok (.rt d) s := (rfl)
noncomputable def kRet (d : D) (s : S) : R Fl := .ok (.rt d) s
@[simp] theorem e_ret {f : FE} : fRet f ρ s = (f ρ s).bind kRet := (rfl)
@[simp] theorem e_ret1 : kRet d s = .ok (.rt d) s := (rfl)
@[simp] theorem e_next : fNext ρ s = .ok (.nx ρ) s := (rfl)
noncomputable def kDrop (ρ : En) (_ : D) (s : S) : R Fl := .ok (.nx ρ) s
@[simp] theorem e_drop {f : FE} : fDrop f ρ s = (f ρ s).bind (kDrop ρ) := (rfl)
@[simp] theorem e_drop1 : kDrop ρ d s = .ok (.nx ρ) s := (rfl)
noncomputable def kSet (i : Nat) (ρ : En) (d : D) (s : S) : R Fl := .ok (.nx (ρ.set i (some d))) s
@[simp] theorem e_set {i : Nat} {f : FE} : fSet i f ρ s = (f ρ s).bind (kSet i ρ) := (rfl)
@[simp] theorem e_set1 {i : Nat} : kSet i ρ d s = .ok (.nx (ρ.set i (some d))) s := (rfl)
noncomputable def kIfS (f g : FS) (ρ : En) (k : Bool) (s : S) : R Fl := if k = true then f ρ s else g ρ s
@[simp] theorem e_ifS {c : FT} {f g : FS} : fIfS c f g ρ s = (c ρ s).bind (kIfS f g ρ) := (rfl)
@[simp] theorem e_ifT {f g : FS} : kIfS f g ρ true s = f ρ s := (rfl)
@[simp] theorem e_ifF {f g : FS} : kIfS f g ρ false s = g ρ s := (rfl)
noncomputable def kIf (f g : FE) (ρ : En) (k : Bool) (s : S) : R D := if k = true then f ρ s else g ρ s
@[simp] theorem e_if {c : FT} {f g : FE} : fIf c f g ρ s = (c ρ s).bind (kIf f g ρ) := (rfl)
@[simp] theorem e_ifET {f g : FE} : kIf f g ρ true s = f ρ s := (rfl)
@[simp] theorem e_ifEF {f g : FE} : kIf f g ρ false s = g ρ s := (rfl)
noncomputable def kTest (d : D) (s : S) : R Bool := match d with
 | .bl k => .ok k s
 | _ => .bad
@[simp] theorem e_test {f : FE} : fTest f ρ s = (f ρ s).bind kTest := (rfl)
@[simp] theorem e_test1 : kTest (.bl b) s = .ok b s := (rfl)
noncomputable def kAndT (g : FT) (ρ : En) (c : Bool) (s : S) : R Bool := if c = true then g ρ s else .ok false s
noncomputable def kOrT (g : FT) (ρ : En) (c : Bool) (s : S) : R Bool := if c = true then .ok true s else g ρ s
noncomputable def kNotT (c : Bool) (s : S) : R Bool := .ok (!c) s
@[simp] theorem e_andT {f g : FT} : fAndT f g ρ s = (f ρ s).bind (kAndT g ρ) := (rfl)
@[simp] theorem e_orT {f g : FT} : fOrT f g ρ s = (f ρ s).bind (kOrT g ρ) := (rfl)
@[simp] theorem e_notT {f : FT} : fNotT f ρ s = (f ρ s).bind kNotT := (rfl)
@[simp] theorem e_andT1 {g : FT} : kAndT g ρ true s = g ρ s := (rfl)
@[simp] theorem e_andT0 {g : FT} : kAndT g ρ false s = .ok false s := (rfl)
@[simp] theorem e_orT0 {g : FT} : kOrT g ρ false s = g ρ s := (rfl)
@[simp] theorem e_notT1 : kNotT b s = .ok (!b) s := (rfl)
noncomputable def kAnd (g : FE) (ρ : En) (d : D) (s : S) : R D := match d with
 | .bl true => g ρ s
 | .bl false => .ok (.bl false) s
 | _ => .bad
noncomputable def kOr (g : FE) (ρ : En) (d : D) (s : S) : R D := match d with
 | .bl false => g ρ s
 | .bl true => .ok (.bl true) s
 | _ => .bad
@[simp] theorem e_and {f g : FE} : fAnd f g ρ s = (f ρ s).bind (kAnd g ρ) := (rfl)
@[simp] theorem e_or {f g : FE} : fOr f g ρ s = (f ρ s).bind (kOr g ρ) := (rfl)
@[simp] theorem e_and1 {g : FE} : kAnd g ρ (.bl true) s = g ρ s := (rfl)
@[simp] theorem e_and0 {g : FE} : kAnd g ρ (.bl false) s = .ok (.bl false) s := (rfl)
@[simp] theorem e_or1 {g : FE} : kOr g ρ (.bl true) s = .ok (.bl true) s := (rfl)
@[simp] theorem e_or0 {g : FE} : kOr g ρ (.bl false) s = g ρ s := (rfl)
noncomputable def kCons1 (g : FA) (ρ : En) (x : D) (s : S) : R (List D) := (g ρ s).bind fun xs s2 => .ok (x :: xs) s2
noncomputable def kCons2 (x : D) (xs : List D) (s : S) : R (List D) := .ok (x :: xs) s
@[simp] theorem e_nil : fNil ρ s = .ok [] s := (rfl)
@[simp] theorem e_vs : fVs ds ρ s = .ok ds s := (rfl)
@[simp] theorem e_cons {f : FE} {g : FA} : fCons f g ρ s = (f ρ s).bind (kCons1 g ρ) := (rfl)
@[simp] theorem e_cons1 {g : FA} : kCons1 g ρ d s = (g ρ s).bind (kCons2 d) := (rfl)
@[simp] theorem e_cons2 : kCons2 d ds s = .ok (d :: ds) s := (rfl)
noncomputable def kTup (ds : List D) (s : S) : R D := if ds.length <= sizeLine then newT ds s else .bad
noncomputable def kLst (m : Bool) (ds : List D) (s : S) : R D := if ds.length <= sizeLine then newL m ds s else .bad
@[simp] theorem e_tup {f : FA} : fTup f ρ s = (f ρ s).bind kTup := (rfl)
@[simp] theorem e_lst {f : FA} : fLst m f ρ s = (f ρ s).bind (kLst m) := (rfl)
theorem kTup_ok (h : pures ds = some xs) (hl : ds.length <= 16777216) : kTup ds s = .ok (.tup xs) s := by
 unfold kTup newT
 rw [if_pos (by rw [sizeLine_eq']; exact hl), h]
theorem kLst_ok (h : pures ds = some xs) (hl : ds.length <= 16777216) : kLst false ds s = .ok (.lst xs) s := by
 unfold kLst newL
 rw [if_pos (by rw [sizeLine_eq']; exact hl), if_neg Bool.false_ne_true, h]
@[simp] theorem lst0 : kLst false [] s = .ok (.lst []) s := (rfl)
@[simp] theorem lst0n : kLst true [] s = .ok (.ref s.length) (s ++ [.lst []]) := (rfl)
@[simp] theorem tup1 {a : PyData} : kTup [.da a] s = .ok (.tup [a]) s := (rfl)
@[simp] theorem tup2 {a b : PyData} : kTup [.da a, .da b] s = .ok (.tup [a, b]) s := (rfl)
@[simp] theorem tup3 {a b c : PyData} : kTup [.da a, .da b, .da c] s = .ok (.tup [a, b, c]) s := (rfl)
@[simp] theorem tup4 {a b c d : PyData} : kTup [.da a, .da b, .da c, .da d] s = .ok (.tup [a, b, c, d]) s := (rfl)
@[simp] theorem lst1 {a : PyData} : kLst false [.da a] s = .ok (.lst [a]) s := (rfl)
@[simp] theorem lst2 {a b : PyData} : kLst false [.da a, .da b] s = .ok (.lst [a, b]) s := (rfl)
@[simp] theorem lst4 {a b c d : PyData} : kLst false [.da a, .da b, .da c, .da d] s = .ok (.lst [a, b, c, d]) s := (rfl)
noncomputable def kSl1 (m : Bool) (lo hi : FO) (ρ : En) (d : D) (s : S) : R D := (lo ρ s).bind fun l s2 => (hi ρ s2).bind fun u s3 => gSl m d l u s3
noncomputable def kSl2 (m : Bool) (hi : FO) (ρ : En) (d : D) (l : Option Int) (s : S) : R D := (hi ρ s).bind fun u s3 => gSl m d l u s3
noncomputable def kSl3 (m : Bool) (d : D) (l u : Option Int) (s : S) : R D := gSl m d l u s
@[simp] theorem e_sl {f : FE} {lo hi : FO} : fSl m f lo hi ρ s = (f ρ s).bind (kSl1 m lo hi ρ) := (rfl)
@[simp] theorem e_sl1 {lo hi : FO} : kSl1 m lo hi ρ d s = (lo ρ s).bind (kSl2 m hi ρ d) := (rfl)
@[simp] theorem e_sl2 {hi : FO} {l : Option Int} : kSl2 m hi ρ d l s = (hi ρ s).bind (kSl3 m d l) := (rfl)
@[simp] theorem e_sl3 {l u : Option Int} : kSl3 m d l u s = gSl m d l u s := (rfl)
@[simp] theorem e_no : fNo ρ s = .ok none s := (rfl)
noncomputable def kSome (d : D) (s : S) : R (Option Int) := match d with
 | .int i => .ok (some i) s
 | _ => .bad
@[simp] theorem e_some {f : FE} : fSome f ρ s = (f ρ s).bind kSome := (rfl)
@[simp] theorem e_some1 : kSome (.int i) s = .ok (some i) s := (rfl)
noncomputable def kNeg (d : D) (s : S) : R D := match d with
 | .int i => .ok (.int (-i)) s
 | _ => .bad
@[simp] theorem e_neg {f : FE} : fNeg f ρ s = (f ρ s).bind kNeg := (rfl)
@[simp] theorem e_neg1 : kNeg (.int i) s = .ok (.int (-i)) s := (rfl)
@[simp] theorem e_tru {f : FE} : fTru f ρ s = (f ρ s).bind gTru := (rfl)
@[simp] theorem tru_bl : gTru (.bl b) s = .ok b s := (rfl)
@[simp] theorem e_cb {g : FF} {f : FA} : fCB g f ρ s = (f ρ s).bind g := (rfl)
noncomputable def kCall (n : Nat) (F : FF) (ds : List D) (s : S) : R D := if ds.length = n then F ds s else .bad
@[simp] theorem e_call {n : Nat} {F : FF} {f : FA} : fCall n F f ρ s = (f ρ s).bind (kCall n F) := (rfl)
@[simp] theorem e_call1 {F : FF} : kCall 1 F [d] s = F [d] s := (rfl)
@[simp] theorem e_call2 {F : FF} : kCall 2 F [d, e] s = F [d, e] s := (rfl)
@[simp] theorem e_call3 {F : FF} {d3 : D} : kCall 3 F [d, e, d3] s = F [d, e, d3] s := (rfl)
@[simp] theorem e_call4 {F : FF} {d3 d4 : D} : kCall 4 F [d, e, d3, d4] s = F [d, e, d3, d4] s := (rfl)
@[simp] theorem len_tup : gLen [.tup xs] s = .ok (.int xs.length) s := by show R.ok (D.int (xs.map D.da).length) s = _; rw [List.length_map]
@[simp] theorem len_lst : gLen [.lst xs] s = .ok (.int xs.length) s := by show R.ok (D.int (xs.map D.da).length) s = _; rw [List.length_map]
theorem len_str (h : x.length <= 16777216) : gLen [.str x] s = .ok (.int x.length) s := if_pos (by rw [sizeLine_eq']; exact h)
theorem len_ref (h : s[n]? = some (.lst ds)) : gLen [.ref n] s = .ok (.int ds.length) s := by
 show (match (match s[n]? with | some (O.lst ds) => some ds | _ => none) with | some xs => R.ok (D.int xs.length) s | none => .bad) = _
 rw [h]
@[simp] theorem min_int : gMin [.int i, .int j] s = .ok (.int (if j < i then j else i)) s := (rfl)
@[simp] theorem list_lst : gList false [.lst xs] s = .ok (.lst xs) s := by
 show (match pures (xs.map D.da) with | some xs => R.ok (D.lst xs) s | none => .bad) = _
 rw [pures_da]
@[simp] theorem list_lstN : gList true [.lst xs] s = .ok (.ref s.length) (s ++ [.lst (xs.map D.da)]) := (rfl)
@[simp] theorem tuple_lst : gTuple [.lst xs] s = .ok (.tup xs) s := by
 show (match pures (xs.map D.da) with | some xs => R.ok (D.tup xs) s | none => .bad) = _
 rw [pures_da]
theorem repr_da {p : PyData} (h : okS p = true) : gRepr [.da p] s = .ok (.str p.shown) s := if_pos h
@[simp] theorem sl_tup {lo hi : Option Int} : gSl m (.tup xs) lo hi s = .ok (.tup (cutL xs lo hi)) s := (rfl)
theorem cutL_map {α β : Type} (f : α -> β) (l : List α) (lo hi : Option Int) : cutL (l.map f) lo hi = (cutL l lo hi).map f := by
 unfold cutL
 rw [List.length_map, List.map_take, List.map_drop]
@[simp] theorem sl_lst {lo hi : Option Int} : gSl false (.lst xs) lo hi s = .ok (.lst (cutL xs lo hi)) s := by
 show (match pures (cutL (xs.map D.da) lo hi) with | some xs => R.ok (D.lst xs) s | none => .bad) = _
 rw [cutL_map, pures_da]
@[simp] theorem sl_frz {lo hi : Option Int} : gSl false (.frz xs) lo hi s = .ok (.lst (cutL xs lo hi)) s := by
 show (match pures (cutL (xs.map D.da) lo hi) with | some xs => R.ok (D.lst xs) s | none => .bad) = _
 rw [cutL_map, pures_da]
noncomputable def kBody (fl : Fl) (s : S) : R D := match fl with
 | .rt d => .ok d s
 | .nx _ => .ok .non s
 | _ => .bad
@[simp] theorem e_bodyr : kBody (.rt d) s = .ok d s := (rfl)
noncomputable def kSetIt1 (fo fi : FE) (ρ : En) (v : D) (s : S) : R Fl := (fo ρ s).bind fun o s2 => (fi ρ s2).bind fun i s3 => (gSet o i v s3).bind fun _ s4 => .ok (.nx ρ) s4
noncomputable def kSetIt2 (fi : FE) (ρ : En) (v o : D) (s : S) : R Fl := (fi ρ s).bind fun i s3 => (gSet o i v s3).bind fun _ s4 => .ok (.nx ρ) s4
noncomputable def kSetIt3 (ρ : En) (v o i : D) (s : S) : R Fl := (gSet o i v s).bind fun _ s4 => .ok (.nx ρ) s4
@[simp] theorem e_setIt {fv fo fi : FE} : fSetIt fv fo fi ρ s = (fv ρ s).bind (kSetIt1 fo fi ρ) := (rfl)
@[simp] theorem e_setIt1 {fo fi : FE} : kSetIt1 fo fi ρ d s = (fo ρ s).bind (kSetIt2 fi ρ d) := (rfl)
@[simp] theorem e_setIt2 {fi : FE} : kSetIt2 fi ρ d e s = (fi ρ s).bind (kSetIt3 ρ d e) := (rfl)
@[simp] theorem e_setIt3 {o : D} : kSetIt3 ρ d e o s = (gSet e o d s).bind (kDrop ρ) := (rfl)
noncomputable def kMt1 (g : GM) (fa : FA) (ρ : En) (d : D) (s : S) : R D := if (toL s d).isSome = true then (fa ρ s).bind fun ds s2 => g d ds s2 else .bad
noncomputable def kMt2 (g : GM) (d : D) (ds : List D) (s : S) : R D := g d ds s
@[simp] theorem e_mt {g : GM} {fo : FE} {fa : FA} : fMt g fo fa ρ s = (fo ρ s).bind (kMt1 g fa ρ) := (rfl)
theorem e_mt1 {g : GM} {fa : FA} (h : s[n]? = some (.lst ds)) : kMt1 g fa ρ (.ref n) s = (fa ρ s).bind (kMt2 g (.ref n)) := by
 unfold kMt1
 rw [if_pos]
 ·rfl
 ·show ((match s[n]? with | some (O.lst ds) => some ds | _ => none) : Option (List D)).isSome = true
  rw [h]; rfl
@[simp] theorem e_mt2 {g : GM} : kMt2 g d ds s = g d ds s := (rfl)
theorem append_ok (h : s[n]? = some (.lst ds)) (hl : ds.length < 16777216) : gAppend (.ref n) [d] s = .ok .non (s.set n (.lst (ds ++ [d]))) := by
 show (match s[n]? with | some (O.lst xs) => (if xs.length < sizeLine then R.ok D.non (s.set n (.lst (xs ++ [d]))) else .bad) | _ => .bad) = _
 rw [h]
 show (if ds.length < sizeLine then _ else _) = _
 rw [if_pos (by rw [sizeLine_eq']; exact hl)]
theorem extend_lst (h : s[n]? = some (.lst ds)) (hl : ds.length + xs.length <= 16777216) : gExtend (.ref n) [.lst xs] s = .ok .non (s.set n (.lst (ds ++ xs.map D.da))) := by
 show (match s[n]? with | some (O.lst ys) => (if ys.length + (xs.map D.da).length <= sizeLine then R.ok D.non (s.set n (.lst (ys ++ xs.map D.da))) else .bad) | _ => .bad) = _
 rw [h]
 exact if_pos (by rw [sizeLine_eq', List.length_map]; exact hl)
theorem popAt_ok {k : Nat} (h : s[n]? = some (.lst ds)) (hk : ds[k]? = some d) (hl : ds.length <= 16777216) : gPopAt (.ref n) [.int (k : Int)] s = .ok d (s.set n (.lst (ds.eraseIdx k))) := by
 have hlt : k < ds.length := (List.getElem?_eq_some_iff.mp hk).1
 have e1 : seqIndex? (k : Int) ds.length = some k := by
  rw [PySem.StrLaws.seqIndex_nonneg (by omega) (by omega), Int.toNat_natCast]
 have b1 : -(2 ^ 63) <= (k : Int) /\ (k : Int) < 2 ^ 63 := by omega
 unfold gPopAt onL
 simp only [h, e1, hk, b1, and_self, if_true]
noncomputable def kFrz (d : D) (s : S) : R D := gFrz d s
@[simp] theorem e_frz {f : FE} : fFrz f ρ s = (f ρ s).bind kFrz := (rfl)
theorem frz_ref (h : s[n]? = some (.lst ds)) (h2 : pures ds = some xs) : kFrz (.ref n) s = .ok (.lst xs) (s.set n .gone) := by
 show (match s[n]? with | some (O.lst ds) => (match pures ds with | some xs => R.ok (D.lst xs) (s.set n .gone) | none => .bad) | _ => .bad) = _
 rw [h]
 show (match pures ds with | some xs => R.ok (D.lst xs) (s.set n .gone) | none => .bad) = _
 rw [h2]
noncomputable def kAsg (g : Tg) (ρ : En) (d : D) (s : S) : R Fl := match setD g d ρ with
 | some ρ1 => .ok (.nx ρ1) s
 | none => .bad
@[simp] theorem e_asg {g : Tg} {f : FE} : fAsg g f ρ s = (f ρ s).bind (kAsg g ρ) := (rfl)
theorem e_asg1 {g : Tg} {ρ1 : En} (h : setD g d ρ = some ρ1) : kAsg g ρ d s = .ok (.nx ρ1) s := by unfold kAsg; rw [h]
noncomputable def kFor (g : Tg) (fb : FS) (ρ : En) (p : Wk) (s : S) : R Fl := chk p s (loopF g fb p p.1 ρ s)
@[simp] theorem e_for {fi : FI} {g : Tg} {fb : FS} : fFor fi g fb ρ s = (fi ρ s).bind (kFor g fb ρ) := (rfl)
@[simp] theorem e_for1 {g : Tg} {fb : FS} : kFor g fb ρ (ds, none) s = loopF g fb (ds, none) ds ρ s := chk_none
@[simp] theorem e_it {f : FE} : fIt f ρ s = (f ρ s).bind gIter := (rfl)
@[simp] theorem it_lst : gIter (.lst xs) s = .ok (xs.map D.da, none) s := (rfl)
@[simp] theorem it_tup : gIter (.tup xs) s = .ok (xs.map D.da, none) s := (rfl)
@[simp] theorem e_rng {f : FA} : fRng f ρ s = (f ρ s).bind gRng := (rfl)
theorem rng_ok (h : -(2 ^ 62) <= j) (h2 : j < 2 ^ 62) : gRng [.int j] s = .ok (rngD 0 j.toNat, none) s := if_pos ⟨h, h2⟩
noncomputable def kLoop (g : Tg) (fb : FS) (p : Wk) (r : List D) (fl : Fl) (s : S) : R Fl := match fl with
 | .nx ρ2 => chk p s (loopF g fb p r ρ2 s)
 | .ct ρ2 => chk p s (loopF g fb p r ρ2 s)
 | .bk ρ2 => .ok (.nx ρ2) s
 | .rt d => .ok (.rt d) s
theorem loop_cons {g : Tg} {fb : FS} {p : Wk} {r : List D} {ρ1 : En} (h : setD g d ρ = some ρ1) : loopF g fb p (d :: r) ρ s = (fb ρ1 s).bind (kLoop g fb p r) := by
 rw [loopF, h]; rfl
@[simp] theorem loop_nx {g : Tg} {fb : FS} {r : List D} : kLoop g fb (ds, none) r (.nx ρ) s = loopF g fb (ds, none) r ρ s := chk_none
@[simp] theorem loop_ct {g : Tg} {fb : FS} {r : List D} : kLoop g fb (ds, none) r (.ct ρ) s = loopF g fb (ds, none) r ρ s := chk_none
@[simp] theorem loop_bk {g : Tg} {fb : FS} {p : Wk} {r : List D} : kLoop g fb p r (.bk ρ) s = .ok (.nx ρ) s := (rfl)
@[simp] theorem loop_rt {g : Tg} {fb : FS} {p : Wk} {r : List D} : kLoop g fb p r (.rt d) s = .ok (.rt d) s := (rfl)
noncomputable def kLc (m : Bool) (js : List Nat) (k : Nat) (g : Tg) (ft : FT) (fe : FE) (ρ : En) (p : Wk) (s : S) : R D := if p.1.length <= sizeLine then chk p s ((compF g ft fe (List.replicate k none ++ capD ρ js) p p.1 s).bind fun ds s2 => newL m ds s2) else .bad
@[simp] theorem e_lc {js : List Nat} {k : Nat} {fi : FI} {g : Tg} {ft : FT} {fe : FE} : fLc m js k fi g ft fe ρ s = (fi ρ s).bind (kLc m js k g ft fe ρ) := (rfl)
noncomputable def kNewL (m : Bool) (ds : List D) (s : S) : R D := newL m ds s
theorem e_lc1 {js : List Nat} {k : Nat} {g : Tg} {ft : FT} {fe : FE} {ρ0 : En} (h : ds.length <= 16777216) (e : List.replicate k none ++ capD ρ js = ρ0) : kLc m js k g ft fe ρ (ds, none) s = (compF g ft fe ρ0 (ds, none) ds s).bind (kNewL m) := by
 subst e
 unfold kLc
 rw [if_pos (by rw [sizeLine_eq']; exact h), chk_none]; rfl
@[simp] theorem e_newF : kNewL false (xs.map D.da) s = .ok (.lst xs) s := by
 show (match pures _ with | some xs => R.ok (D.lst xs) s | none => .bad) = _
 rw [pures_da]
@[simp] theorem comp_nil {g : Tg} {ft : FT} {fe : FE} {p : Wk} : compF g ft fe ρ p [] s = .ok [] s := (rfl)
noncomputable def kComp1 (g : Tg) (ft : FT) (fe : FE) (ρ0 : En) (p : Wk) (r : List D) (ρ1 : En) (b : Bool) (s2 : S) : R (List D) := if b = true then (fe ρ1 s2).bind fun x s3 => chk p s3 ((compF g ft fe ρ0 p r s3).bind fun xs s4 => .ok (x :: xs) s4) else chk p s2 (compF g ft fe ρ0 p r s2)
noncomputable def kComp2 (g : Tg) (ft : FT) (fe : FE) (ρ0 : En) (p : Wk) (r : List D) (x : D) (s3 : S) : R (List D) := chk p s3 ((compF g ft fe ρ0 p r s3).bind fun xs s4 => .ok (x :: xs) s4)
theorem comp_cons {g : Tg} {ft : FT} {fe : FE} {p : Wk} {r : List D} {ρ1 : En} (h : setD g d ρ = some ρ1) : compF g ft fe ρ p (d :: r) s = (ft ρ1 s).bind (kComp1 g ft fe ρ p r ρ1) := by
 rw [compF, h]; rfl
@[simp] theorem comp_t {g : Tg} {ft : FT} {fe : FE} {p : Wk} {r : List D} {ρ1 : En} : kComp1 g ft fe ρ p r ρ1 true s = (fe ρ1 s).bind (kComp2 g ft fe ρ p r) := (rfl)
@[simp] theorem comp_f {g : Tg} {ft : FT} {fe : FE} {r : List D} {ρ1 : En} : kComp1 g ft fe ρ (ds, none) r ρ1 false s = compF g ft fe ρ (ds, none) r s := chk_none
@[simp] theorem comp_x {g : Tg} {ft : FT} {fe : FE} {r : List D} : kComp2 g ft fe ρ (ds, none) r d s = (compF g ft fe ρ (ds, none) r s).bind (kCons2 d) := chk_none
@[simp] theorem e_yes : fYes ρ s = .ok true s := (rfl)
theorem lstN1 {a0 : D} : kLst true [a0] s = .ok (.ref s.length) (s ++ [.lst [a0]]) := (rfl)
theorem lstN2 {a0 a1 : D} : kLst true [a0, a1] s = .ok (.ref s.length) (s ++ [.lst [a0, a1]]) := (rfl)
theorem lstN4 {a0 a1 a2 a3 : D} : kLst true [a0, a1, a2, a3] s = .ok (.ref s.length) (s ++ [.lst [a0, a1, a2, a3]]) := (rfl)
theorem kLst_da (h : xs.length <= 16777216) : kLst false (xs.map D.da) s = .ok (.lst xs) s := kLst_ok (pures_da xs) (by rw [List.length_map]; exact h)
theorem kTup_da (h : xs.length <= 16777216) : kTup (xs.map D.da) s = .ok (.tup xs) s := kTup_ok (pures_da xs) (by rw [List.length_map]; exact h)
theorem it0 {a0 : PyData} {r : List PyData} : gIx (.tup (a0 :: r)) (.int 0) s = .ok (.da a0) s := gIx_tup (k := 0) rfl
theorem il0 {a0 : PyData} {r : List PyData} : gIx (.lst (a0 :: r)) (.int 0) s = .ok (.da a0) s := gIx_lst (k := 0) rfl
theorem it1 {a0 a1 : PyData} {r : List PyData} : gIx (.tup (a0 :: a1 :: r)) (.int 1) s = .ok (.da a1) s := gIx_tup (k := 1) rfl
theorem il1 {a0 a1 : PyData} {r : List PyData} : gIx (.lst (a0 :: a1 :: r)) (.int 1) s = .ok (.da a1) s := gIx_lst (k := 1) rfl
theorem it2 {a0 a1 a2 : PyData} {r : List PyData} : gIx (.tup (a0 :: a1 :: a2 :: r)) (.int 2) s = .ok (.da a2) s := gIx_tup (k := 2) rfl
theorem il2 {a0 a1 a2 : PyData} {r : List PyData} : gIx (.lst (a0 :: a1 :: a2 :: r)) (.int 2) s = .ok (.da a2) s := gIx_lst (k := 2) rfl
theorem it3 {a0 a1 a2 a3 : PyData} {r : List PyData} : gIx (.tup (a0 :: a1 :: a2 :: a3 :: r)) (.int 3) s = .ok (.da a3) s := gIx_tup (k := 3) rfl
theorem il3 {a0 a1 a2 a3 : PyData} {r : List PyData} : gIx (.lst (a0 :: a1 :: a2 :: a3 :: r)) (.int 3) s = .ok (.da a3) s := gIx_lst (k := 3) rfl
theorem il4 {a0 a1 a2 a3 a4 : PyData} {r : List PyData} : gIx (.lst (a0 :: a1 :: a2 :: a3 :: a4 :: r)) (.int 4) s = .ok (.da a4) s := gIx_lst (k := 4) rfl
theorem l_nm0 {r : En} {y : Option D} : setD (.nm 0) d (y :: r) = some (some d :: r) := (rfl)
theorem l_set1 {r : En} {x0 y : Option D} : kSet 1 (x0 :: y :: r) d s = .ok (.nx (x0 :: some d :: r)) s := (rfl)
theorem l_set2 {r : En} {x0 x1 y : Option D} : kSet 2 (x0 :: x1 :: y :: r) d s = .ok (.nx (x0 :: x1 :: some d :: r)) s := (rfl)
theorem l_nm2 {r : En} {x0 x1 y : Option D} : setD (.nm 2) d (x0 :: x1 :: y :: r) = some (x0 :: x1 :: some d :: r) := (rfl)
theorem l_set3 {r : En} {x0 x1 x2 y : Option D} : kSet 3 (x0 :: x1 :: x2 :: y :: r) d s = .ok (.nx (x0 :: x1 :: x2 :: some d :: r)) s := (rfl)
theorem l_set4 {r : En} {x0 x1 x2 x3 y : Option D} : kSet 4 (x0 :: x1 :: x2 :: x3 :: y :: r) d s = .ok (.nx (x0 :: x1 :: x2 :: x3 :: some d :: r)) s := (rfl)
theorem l_nm4 {r : En} {x0 x1 x2 x3 y : Option D} : setD (.nm 4) d (x0 :: x1 :: x2 :: x3 :: y :: r) = some (x0 :: x1 :: x2 :: x3 :: some d :: r) := (rfl)
theorem l_set5 {r : En} {x0 x1 x2 x3 x4 y : Option D} : kSet 5 (x0 :: x1 :: x2 :: x3 :: x4 :: y :: r) d s = .ok (.nx (x0 :: x1 :: x2 :: x3 :: x4 :: some d :: r)) s := (rfl)
theorem l_set6 {r : En} {x0 x1 x2 x3 x4 x5 y : Option D} : kSet 6 (x0 :: x1 :: x2 :: x3 :: x4 :: x5 :: y :: r) d s = .ok (.nx (x0 :: x1 :: x2 :: x3 :: x4 :: x5 :: some d :: r)) s := (rfl)
theorem l_nm6 {r : En} {x0 x1 x2 x3 x4 x5 y : Option D} : setD (.nm 6) d (x0 :: x1 :: x2 :: x3 :: x4 :: x5 :: y :: r) = some (x0 :: x1 :: x2 :: x3 :: x4 :: x5 :: some d :: r) := (rfl)
theorem l_set7 {r : En} {x0 x1 x2 x3 x4 x5 x6 y : Option D} : kSet 7 (x0 :: x1 :: x2 :: x3 :: x4 :: x5 :: x6 :: y :: r) d s = .ok (.nx (x0 :: x1 :: x2 :: x3 :: x4 :: x5 :: x6 :: some d :: r)) s := (rfl)
theorem l_nm7 {r : En} {x0 x1 x2 x3 x4 x5 x6 y : Option D} : setD (.nm 7) d (x0 :: x1 :: x2 :: x3 :: x4 :: x5 :: x6 :: y :: r) = some (x0 :: x1 :: x2 :: x3 :: x4 :: x5 :: x6 :: some d :: r) := (rfl)
theorem l_set8 {r : En} {x0 x1 x2 x3 x4 x5 x6 x7 y : Option D} : kSet 8 (x0 :: x1 :: x2 :: x3 :: x4 :: x5 :: x6 :: x7 :: y :: r) d s = .ok (.nx (x0 :: x1 :: x2 :: x3 :: x4 :: x5 :: x6 :: x7 :: some d :: r)) s := (rfl)
theorem l_nm8 {r : En} {x0 x1 x2 x3 x4 x5 x6 x7 y : Option D} : setD (.nm 8) d (x0 :: x1 :: x2 :: x3 :: x4 :: x5 :: x6 :: x7 :: y :: r) = some (x0 :: x1 :: x2 :: x3 :: x4 :: x5 :: x6 :: x7 :: some d :: r) := (rfl)
theorem l_set9 {r : En} {x0 x1 x2 x3 x4 x5 x6 x7 x8 y : Option D} : kSet 9 (x0 :: x1 :: x2 :: x3 :: x4 :: x5 :: x6 :: x7 :: x8 :: y :: r) d s = .ok (.nx (x0 :: x1 :: x2 :: x3 :: x4 :: x5 :: x6 :: x7 :: x8 :: some d :: r)) s := (rfl)
theorem l_set10 {r : En} {x0 x1 x2 x3 x4 x5 x6 x7 x8 x9 y : Option D} : kSet 10 (x0 :: x1 :: x2 :: x3 :: x4 :: x5 :: x6 :: x7 :: x8 :: x9 :: y :: r) d s = .ok (.nx (x0 :: x1 :: x2 :: x3 :: x4 :: x5 :: x6 :: x7 :: x8 :: x9 :: some d :: r)) s := (rfl)
theorem l_set11 {r : En} {x0 x1 x2 x3 x4 x5 x6 x7 x8 x9 x10 y : Option D} : kSet 11 (x0 :: x1 :: x2 :: x3 :: x4 :: x5 :: x6 :: x7 :: x8 :: x9 :: x10 :: y :: r) d s = .ok (.nx (x0 :: x1 :: x2 :: x3 :: x4 :: x5 :: x6 :: x7 :: x8 :: x9 :: x10 :: some d :: r)) s := (rfl)
theorem l_set12 {r : En} {x0 x1 x2 x3 x4 x5 x6 x7 x8 x9 x10 x11 y : Option D} : kSet 12 (x0 :: x1 :: x2 :: x3 :: x4 :: x5 :: x6 :: x7 :: x8 :: x9 :: x10 :: x11 :: y :: r) d s = .ok (.nx (x0 :: x1 :: x2 :: x3 :: x4 :: x5 :: x6 :: x7 :: x8 :: x9 :: x10 :: x11 :: some d :: r)) s := (rfl)
end
@[simp] theorem R.bind_ok' {α β : Type} (a : α) (s : S) (f : α -> S -> R β) : (R.ok a s).bind f = f a s := (rfl)
@[simp] theorem R.W_ok' {α : Type} (a : α) (s : S) (Q : α -> S -> Prop) : (R.ok a s).W Q = Q a s := (rfl)
end PF
namespace PF
open PySem PySem.Spec
open L2
noncomputable def flW (J : En -> S -> Prop) (Q : Fl -> S -> Prop) (fl : Fl) (s : S) : Prop := match fl with
 | .nx ρ => J ρ s
 | .ct ρ => J ρ s
 | .bk ρ => Q (.nx ρ) s
 | .rt d => Q (.rt d) s
theorem loop_inv {g : Tg} {fb : FS} {all : List D} {Q : Fl -> S -> Prop} (J : List D -> En -> S -> Prop)
  (step : ∀ d r ρ s, J (d :: r) ρ s -> ∃ ρ1, setD g d ρ = some ρ1 /\ (fb ρ1 s).W (flW (J r) Q)) (fin : ∀ ρ s, J [] ρ s -> Q (.nx ρ) s) :
  ∀ (ds : List D) (ρ : En) (s : S), J ds ρ s -> (loopF g fb (all, none) ds ρ s).W Q
 | [], ρ, s, h => fin ρ s h
 | d :: r, ρ, s, h => by
  obtain ⟨ρ1, e, w⟩ := step d r ρ s h
  rw [loop_cons e, R.W_bind]
  refine R.W_mono w fun fl s1 q => ?_
  cases fl with
  | nx ρ2 => rw [loop_nx]; exact loop_inv J step fin r ρ2 s1 q
  | ct ρ2 => rw [loop_ct]; exact loop_inv J step fin r ρ2 s1 q
  | bk ρ2 => rw [loop_bk]; exact q
  | rt d => rw [loop_rt]; exact q
theorem comp_inv {g : Tg} {ft : FT} {fe : FE} {ρ0 : En} {all : List D} {Q : List D -> S -> Prop} (J : List D -> List D -> S -> Prop)
  (step : ∀ d r acc s, J (d :: r) acc s -> ∃ ρ1, setD g d ρ0 = some ρ1 /\ (ft ρ1 s).W fun b s2 => if b = true then (fe ρ1 s2).W fun x s3 => J r (acc ++ [x]) s3 else J r acc s2) (fin : ∀ acc s, J [] acc s -> Q acc s) :
  ∀ (ds acc : List D) (s : S), J ds acc s -> (compF g ft fe ρ0 (all, none) ds s).W fun xs s' => Q (acc ++ xs) s'
 | [], acc, s, h => by
  rw [comp_nil, R.W_ok, List.append_nil]
  exact fin acc s h
 | d :: r, acc, s, h => by
  obtain ⟨ρ1, e, w⟩ := step d r acc s h
  rw [comp_cons e, R.W_bind]
  refine R.W_mono w fun b s1 q => ?_
  cases b with
  | false =>
   rw [comp_f]
   rw [if_neg Bool.false_ne_true] at q
   exact comp_inv J step fin r acc s1 q
  | true =>
   rw [comp_t, R.W_bind]
   rw [if_pos rfl] at q
   refine R.W_mono q fun x s2 q2 => ?_
   rw [comp_x, R.W_bind]
   refine R.W_mono (comp_inv J step fin r (acc ++ [x]) s2 q2) fun xs s3 q3 => ?_
   rw [e_cons2, R.W_ok]
   rw [List.append_assoc] at q3
   exact q3
structure Ext (s s' : S) : Prop where
 ex : ∃ g, s' = s ++ g
theorem Ext.refl (s : S) : Ext s s := ⟨[], by simp⟩
theorem Ext.add (s g : S) : Ext s (s ++ g) := ⟨g, rfl⟩
theorem Ext.len {s s' : S} (h : Ext s s') : s.length <= s'.length := by obtain ⟨g, rfl⟩ := h.ex; simp
theorem Ext.get {s s' : S} (h : Ext s s') {k : Nat} {o : O} (e : s[k]? = some o) : s'[k]? = some o := by
 obtain ⟨g, rfl⟩ := h.ex
 rw [List.getElem?_append_left (List.getElem?_eq_some_iff.mp e).1]; exact e
theorem Ext.getE {s s' : S} (h : Ext s s') {k : Nat} (e : k < s.length) : s'[k]? = s[k]? := by
 obtain ⟨g, rfl⟩ := h.ex
 rw [List.getElem?_append_left e]
structure Same (n : Nat) (s s' : S) : Prop where
 len : s.length <= s'.length
 get : ∀ k, k ≠ n -> k < s.length -> s'[k]? = s[k]?
theorem Same.refl (n : Nat) (s : S) : Same n s s := ⟨Nat.le_refl _, fun _ _ _ => rfl⟩
theorem Same.trans {n : Nat} {a b c : S} (h1 : Same n a b) (h2 : Same n b c) : Same n a c := ⟨Nat.le_trans h1.len h2.len, fun k hk hl => (h2.get k hk (Nat.lt_of_lt_of_le hl h1.len)).trans (h1.get k hk hl)⟩
theorem Ext.same {s s' : S} (h : Ext s s') (n : Nat) : Same n s s' := ⟨h.len, fun _ _ hl => h.getE hl⟩
theorem same_set {n : Nat} {s : S} {o : O} : Same n s (s.set n o) := ⟨by simp, fun k hk hl => List.getElem?_set_ne (Ne.symm hk)⟩
theorem Same.own {n k : Nat} {s s' : S} {o : O} (h : Same n s s') (hk : s.length <= k) : Same n s (s'.set k o) := ⟨by simpa using h.len, fun j hj hl => by rw [List.getElem?_set_ne (by omega)]; exact h.get j hj hl⟩
theorem set_self {α : Type} {s : List α} {n : Nat} {o : α} (e : s[n]? = some o) : s.set n o = s := by
 apply List.ext_getElem?
 intro i
 by_cases z : n = i
 ·subst z
  have hl := (List.getElem?_eq_some_iff.mp e).1
  rw [List.getElem?_set_self hl, e]
 ·rw [List.getElem?_set_ne z]
structure Nice (B D : Nat) (d : PyData) : Prop where
 ls : d.leavesShort 13 = true
 sh : d.showable = true
 cl : d.canLay0 = true
 bk : d.bulk <= B
 dp : d.depth <= D
structure Nices (B D : Nat) (ds : List PyData) : Prop where
 ls : PyData.leavesShortAll 13 ds = true
 sh : PyData.showableAll ds = true
 cl : PyData.canLayAll0 ds = true
 bk : PyData.bulkAll ds <= B
 dp : PyData.depthAll ds <= D
theorem Nice.mono {B D B' D' : Nat} {d : PyData} (h : Nice B D d) (hb : B <= B') (hd : D <= D') : Nice B' D' d := ⟨h.ls, h.sh, h.cl, Nat.le_trans h.bk hb, Nat.le_trans h.dp hd⟩
theorem Nices.mono {B D B' D' : Nat} {ds : List PyData} (h : Nices B D ds) (hb : B <= B') (hd : D <= D') : Nices B' D' ds := ⟨h.ls, h.sh, h.cl, Nat.le_trans h.bk hb, Nat.le_trans h.dp hd⟩
theorem Nices.nil {D : Nat} : Nices 0 D [] := ⟨rfl, rfl, rfl, Nat.le_refl _, Nat.zero_le _⟩
theorem Nices.cons {B B' D : Nat} {d : PyData} {ds : List PyData} (h : Nice B D d) (t : Nices B' D ds) : Nices (B + 1 + B') D (d :: ds) := by
 obtain ⟨a1, a2, a5, a3, a4⟩ := h
 obtain ⟨b1, b2, b5, b3, b4⟩ := t
 refine ⟨?_, ?_, ?_, ?_, ?_⟩
 ·simp only [PyData.leavesShortAll, a1, b1, Bool.and_self]
 ·simp only [PyData.showableAll, a2, b2, Bool.and_self]
 ·simp only [PyData.canLayAll0, a5, b5, Bool.and_self]
 ·simp only [PyData.bulkAll]; omega
 ·simp only [PyData.depthAll]; omega
theorem Nices.tup {B D : Nat} {ds : List PyData} (h : Nices B D ds) : Nice B (D + 1) (.tuple ds) := by
 obtain ⟨b1, b2, b5, b3, b4⟩ := h
 refine ⟨?_, ?_, ?_, ?_, ?_⟩
 ·simpa only [PyData.leavesShort] using b1
 ·simpa only [PyData.showable] using b2
 ·simpa only [PyData.canLay0] using b5
 ·simpa only [PyData.bulk] using b3
 ·simp only [PyData.depth]; omega
theorem Nices.lst {B D : Nat} {ds : List PyData} (h : Nices B D ds) : Nice B (D + 1) (.list ds) := by
 obtain ⟨b1, b2, b5, b3, b4⟩ := h
 refine ⟨?_, ?_, ?_, ?_, ?_⟩
 ·simpa only [PyData.leavesShort] using b1
 ·simpa only [PyData.showable] using b2
 ·simpa only [PyData.canLay0] using b5
 ·simpa only [PyData.bulk] using b3
 ·simp only [PyData.depth]; omega
theorem Nice.okS {B D : Nat} {d : PyData} (h : Nice B D d) (hb : B <= 1048576) (hd : D <= 64) : okS d = true := by
 unfold PF.okS
 (simp only [Bool.and_eq_true, decide_eq_true_eq])
 exact ⟨⟨⟨h.cl, h.sh⟩, Nat.le_trans h.dp hd⟩, PyData.shown_fits_bulk (by decide) (by decide) h.ls (Nat.le_trans h.bk hb)⟩
theorem Nice.okD {B D : Nat} {d : PyData} (h : Nice B D d) (hd : D <= 64) : okD d = true := by
 unfold PF.okD
 rw [Bool.and_eq_true]
 exact ⟨h.cl, decide_eq_true (Nat.le_trans h.dp hd)⟩
theorem nices_all {B D : Nat} : ∀ (ds : List PyData), (∀ d ∈ ds, Nice B D d) -> Nices ((B + 1) * ds.length) D ds
 | [], _ => Nices.nil
 | d :: r, h => by
  refine (Nices.cons (h d List.mem_cons_self) (nices_all r fun y hy => h y (List.mem_cons_of_mem _ hy))).mono ?_ (Nat.le_refl _)
  rw [List.length_cons, Nat.mul_add]; omega
theorem nice_none : Nice 0 0 .none := ⟨rfl, rfl, rfl, Nat.le_refl _, by simp [PyData.depth]⟩
theorem nice_bool (b : Bool) : Nice 0 0 (.bool b) := ⟨by cases b <;> rfl, rfl, rfl, by simp [PyData.bulk], by simp [PyData.depth]⟩
theorem nice_int {i : Int} (h0 : i.natAbs < 10 ^ 12) : Nice 0 0 (.int i) := by
 refine ⟨?_, ?_, rfl, Nat.le_refl _, by simp [PyData.depth]⟩
 ·simp only [PyData.leavesShort, decide_eq_true_eq]
  exact PyData.shown_int_le h0
 ·simp only [PyData.showable, decide_eq_true_eq]
  have : i.natAbs.log2 <= i.natAbs := Nat.log2_le_self _
  by_cases z : i.natAbs = 0
  ·rw [z]; decide
  ·have h2 : i.natAbs < 2 ^ 40 := by omega
   have := (Nat.log2_lt z).mpr h2
   omega
noncomputable def okPort (x : Str) : Bool := (decide (0 < x.length) && decide (x.length <= 20)) && x.cps.toList.all fun c => decide (32 <= c) && decide (c < 127)
theorem nice_str {x : Str} (h : okPort x = true) : Nice 20 0 (.str x) := by
 unfold okPort at h
 simp only [Bool.and_eq_true, decide_eq_true_eq, List.all_eq_true] at h
 refine ⟨?_, rfl, ?_, h.1.2, by simp [PyData.depth]⟩
 ·simp only [PyData.leavesShort, List.all_eq_true, decide_eq_true_eq]
  intro c hc
  have := (h.2 c hc).2
  have e16 : (16 : Nat) ^ 8 = 4294967296 := by decide
  omega
 ·simp only [PyData.canLay0]
  unfold PyData.strOk
  (rw [← Array.all_toList, List.all_eq_true])
  intro c hc
  have := (h.2 c hc).2
  (exact decide_eq_true (by omega))
theorem nices_strs : ∀ (xs : List Str), (∀ x ∈ xs, okPort x = true) -> Nices (21 * xs.length) 0 (xs.map .str)
 | [], _ => Nices.nil
 | x :: r, h => by
  refine (Nices.cons (nice_str (h x List.mem_cons_self)) (nices_strs r fun y hy => h y (List.mem_cons_of_mem _ hy))).mono ?_ (Nat.le_refl _)
  rw [List.length_cons]; omega
end PF
namespace PF
open PySem PySem.Spec
open L2
open PyProof.Rows (envOfC)
section
variable {P : Program} {w : World} {K : PySem.W.Frag} {mg : Str -> Option Value} {base : Heap} {x : Str} {st : Stmt} {N ps : List Str} {k : Nat}
theorem fnF {f : Addr} {fd : FuncData} (F : Fun K x x st f fd) (S : FnScope N ps (defScope st)) {m n : Nat} {fb : FS} (hm : N.length = m) (hn : ps.length = n)
  (hbody : ∀ (f : Addr) (cdv : Value) (A : Around) (outer : List Env) (s : Shared) (H : Hp) (E : XK), Room k (A.deeper (envOfC x (defScope st) s.heap.objs.size f cdv)) ->
   RSs (cxOf CX0 P w K mg base N x (defScope st) f cdv A outer s H E).nox (defBody st) fb) : FnOk P w K mg base CX0 (k + 1) f fd ps (spF K n (bodyF m fb)) := by
 refine F.ok S (fun vs H Q E h => by rw [hn]; exact h.1) fun cdv A outer s H vs Q E hr h => ?_
 obtain ⟨hv, as, ds, s', rl, rs, h⟩ := h
 obtain ⟨t, p, r⟩ := (hbody f cdv A outer s H E hr).ex
 refine ⟨t, p, ?_⟩
 have en : Envs K as H (ds.map some ++ List.replicate (m - ds.length) none) (L2.start N vs) := by rw [← hm]; exact start_envs rs
 refine r as _ H _ s' _ rl en (Dn.bind h fun fl s1 as1 H1 fv st1 rl1 r1 h1 => ?_)
 cases r1 with
 | nx e => exact Dn.now (Q := Q) h1 rl1 (.da .non)
 | rt e => exact Dn.now (Q := Q) h1 rl1 e
 | bk e => exact h1.elim
 | ct e => exact h1.elim
theorem law_of {f : Addr} {fd : FuncData} {F : FF} (h : FnOk P w K mg base CX0 k f fd ps (spF K 1 F)) (ht : ∀ ns : List Int, ns.length <= 63 -> (F [.frz (ns.map PyData.int)] []).W fun d _ => d = .bl true) : FnOk P w K mg base CX0 k f fd ps (spLaw K) := by
 refine h.imp fun vs H Q E q => ?_
 obtain ⟨a, ns, rfl, hS, hl, hq⟩ := q
 have R0 : Rel K ⟨[], []⟩ H [] := ⟨rfl, fun i j p e => by simp at e, fun n p o e => by simp at e, fun n o e => by simp at e, fun p hp => by simp at hp, fun p hp => by simp at hp⟩
 refine ⟨rfl, ⟨[], []⟩, [.frz (ns.map PyData.int)], [], R0, .cons (.frz (fun as' H' st => ?_) (TDs.ints ns)) .nil, ?_⟩
 ·exact L2.Same.seq (fun b o hb => st.keep b o (by simp [As.has]) hb) hS
 ·have t := ht ns hl
  cases hr : F [.frz (ns.map PyData.int)] [] with
  | ok d s =>
   rw [hr] at t
   intro b as' H' st rl rb
   have : d = .bl true := t
   subst this
   cases rb with
   | da z => cases z; exact hq _
  | bad => rw [hr] at t; exact t
end
end PF
namespace PF
open PySem PySem.Spec
open PySem.SeqAt
open AutoSeq1 (wpAny_loadPart') --
open MeetsSeq MeetsSeq2 MeetsSeq3 SeqRoads2 --
noncomputable def LtAt (A : Around) (s : Shared) (x y : Value) (b : Bool) : Prop := ∀ (prog : Program) (w : World) (E : Value -> Shared -> Prop) (Q : Value -> Shared -> Prop), Q (.bool b) s -> wpAny (model prog w) A (richCompare .Lt x y) Q E s
inductive LexAt (A : Around) (s : Shared) (fin : Bool) : List (Value × Value) -> Bool -> Prop
 | nil : LexAt A s fin [] fin
 | same {x y : Value} {r : List (Value × Value)} {b : Bool} : EqAt A s x y true -> LexAt A s fin r b -> LexAt A s fin ((x, y) :: r) b
 | diff {x y : Value} {r : List (Value × Value)} {b : Bool} : EqAt A s x y false -> LtAt A s x y b -> LexAt A s fin ((x, y) :: r) b
theorem tup_lt (l b : Addr) (us ws : Array Value) (n n2 : Nat) (dd dd2 : Option Addr) (sl sl2 : Array (Option Value)) (r : Bool) :
  Meets (Builtin.«tuple.__lt__» ⟨[.ref l, .ref b], []⟩)
   (fun A R s => s.heap.get? l = some { cls := .type "tuple", dict := dd, data := .seq us n, slots := sl } /\ s.heap.get? b = some { cls := .type "tuple", dict := dd2, data := .seq ws n2, slots := sl2 } /\
    LexAt A.in1 s (decide (us.size < ws.size)) (us.toList.zip ws.toList) r /\ R (.ok (.ret (.bool r))) s) :=
 .of_wp fun prog w A R s h => by
  (obtain ⟨hp, g, d, tk, os⟩ := s)
  obtain ⟨hl, hb, lx, hR⟩ := h
  have sub := AutoSeq1.sub_tuple_tuple
  wp_walk using wpAny_loadPart' hl, wpAny_loadPart' hb, wpAny_forIn_list _ (fun rest b s' => b.1 = none /\ s' = ⟨hp, g, d, tk, os⟩ /\ LexAt A.in1 ⟨hp, g, d, tk, os⟩ (decide (us.size < ws.size)) rest r) _
  case turn =>
   rintro ⟨y, x⟩ rest b s' ⟨hb', rfl, lx⟩
   cases lx with
   | same e t =>
    refine wpAny_bind (e prog w _ _ ?_)
    wp_walk
    exact ⟨rfl, rfl, t⟩
   | diff e t =>
    refine wpAny_bind (e prog w _ _ ?_)
    have t' : ∀ (E : Value -> Shared -> Prop) (Q : Value -> Shared -> Prop), Q (.bool r) ⟨hp, g, d, tk, os⟩ -> wpAny (model prog w) A.in1 (richCompare .Lt y x) Q E ⟨hp, g, d, tk, os⟩ := fun E Q => t prog w E Q
    generalize richCompare .Lt y x = m at t' ⊢
    wp_walk
    refine t' _ _ ?_
    wp_walk
    exact ⟨_, rfl, hR⟩
  case fin =>
   rintro ⟨b1, b2⟩ s' ⟨hb', rfl, lx⟩
   simp only at hb'
   subst hb'
   cases lx
   wp_walk
   exact ⟨_, rfl, by simpa [Builtin.Tuple.tupleCompareSizes] using hR⟩
  case h => exact ⟨rfl, rfl, lx⟩
section
variable {A : Around} {s : Shared} --
theorem LtAt.tuples {l b : Addr} {us ws : Array Value} {r : Bool} (hl : s.heap.IsTuple l us) (hb : s.heap.IsTuple b ws) (hu : A.units < cLine) (lx : LexAt A.in1 s (decide (us.size < ws.size)) (us.toList.zip ws.toList) r) : LtAt A s (.ref l) (.ref b) r := fun prog w E Q h => by
 obtain ⟨⟨c1, d1, e1, s1⟩, o1, k1, n1, q1⟩ := id hl
 obtain ⟨⟨c2, d2, e2, s2⟩, o2, k2, n2, q2⟩ := id hb
 simp only at k1 q1 k2 q2
 subst k1 q1 k2 q2
 exact richCompare_meets_room (op := .Lt) ⟨_, o1, rfl⟩ ⟨_, o2, rfl⟩ F.slot_tuple_lt F.entry_tuple_lt (F.args_tuple_lt_2 _ _) (tup_lt l b us ws n1 n2 d1 d2 s1 s2 r) ⟨o1, o2, lx, show Value.bool r ≠ Value.notImplemented /\ Q (.bool r) s from ⟨nofun, h⟩⟩ hu
end
mutual
noncomputable def ltP : PyData -> PyData -> Option Bool
 | .int i, .int j => some (decide (i < j))
 | .str a, .str b => some (decide (a.cps.toList < b.cps.toList))
 | .tuple xs, .tuple ys => ltPs xs ys
 | _, _ => none
noncomputable def ltPs : List PyData -> List PyData -> Option Bool
 | [], [] => some false
 | [], _ :: _ => some true
 | _ :: _, [] => some false
 | x :: xs, y :: ys => if PyData.eqv x y = true then ltPs xs ys else ltP x y
end
theorem ltPs_nil_nil : ltPs [] [] = some false := by simp only [ltPs]
theorem ltPs_nil_cons {y : PyData} {ys : List PyData} : ltPs [] (y :: ys) = some true := by simp only [ltPs]
theorem ltPs_cons_nil {y : PyData} {ys : List PyData} : ltPs (y :: ys) [] = some false := by simp only [ltPs]
theorem ltPs_cons {x y : PyData} {xs ys : List PyData} : ltPs (x :: xs) (y :: ys) = if PyData.eqv x y = true then ltPs xs ys else ltP x y := by simp only [ltPs]
theorem ltP_int {i j : Int} : ltP (.int i) (.int j) = some (decide (i < j)) := by simp only [ltP]
theorem ltP_str {a b : Str} : ltP (.str a) (.str b) = some (decide (a.cps.toList < b.cps.toList)) := by simp only [ltP]
theorem ltP_tup {xs ys : List PyData} : ltP (.tuple xs) (.tuple ys) = ltPs xs ys := by simp only [ltP]
end PF
namespace PF
open PySem PySem.Spec
open PySem.SeqAt
mutual
theorem ltAt_reads : ∀ (da db : PyData) (A : Around) (s : Shared) (a b : Value) (as bs : List Addr) (r : Bool), Reads s.heap a da as -> Reads s.heap b db bs -> da.canLay0 = true -> db.canLay0 = true -> A.units + min da.depth db.depth < cLine -> ltP da db = some r -> LtAt A s a b r
 | .int i, db, A, s, _, _, _, _, r, ra, rb, _, _, _, h => by
  cases db with
  | int j =>
   rw [ltP_int] at h
   cases h
   cases ra; cases rb
   exact fun prog w E Q q => PyProof.Rows.lt_int q
  | none => simp [ltP] at h
  | bool _ => simp [ltP] at h
  | str _ => simp [ltP] at h
  | list _ => simp [ltP] at h
  | tuple _ => simp [ltP] at h
  | dict _ => simp [ltP] at h
 | .str x, db, A, s, _, _, _, _, r, ra, rb, _, _, _, h => by
  cases db with
  | str j =>
   rw [ltP_str] at h
   cases h
   cases ra; cases rb
   exact fun prog w E Q q => PyProof.Rows.lt_str q
  | none => simp [ltP] at h
  | bool _ => simp [ltP] at h
  | int _ => simp [ltP] at h
  | list _ => simp [ltP] at h
  | tuple _ => simp [ltP] at h
  | dict _ => simp [ltP] at h
 | .tuple xs, db, A, s, _, _, _, _, r, ra, rb, ha, hb, hu, h => by
  cases db with
  | tuple ys =>
   rw [ltP_tup] at h
   cases ra with
   | tuple h1 h2 h3 h4 =>
    cases rb with
    | tuple k1 k2 k3 k4 =>
     refine LtAt.tuples ⟨_, h1, h2, _, h3⟩ ⟨_, k1, k2, _, k3⟩ (room_here hu) ?_
     have t := lexAt_reads xs ys A.in1 s _ _ _ _ r h4 k4 ha hb (room_in hu) h
     simpa using t
  | none => simp [ltP] at h
  | bool _ => simp [ltP] at h
  | int _ => simp [ltP] at h
  | list _ => simp [ltP] at h
  | str _ => simp [ltP] at h
  | dict _ => simp [ltP] at h
 | .none, _, _, _, _, _, _, _, _, _, _, _, _, _, h => by simp [ltP] at h
 | .bool _, _, _, _, _, _, _, _, _, _, _, _, _, _, h => by simp [ltP] at h
 | .list _, _, _, _, _, _, _, _, _, _, _, _, _, _, h => by simp [ltP] at h
 | .dict _, _, _, _, _, _, _, _, _, _, _, ha, _, _, _ => nomatch ha
theorem lexAt_reads : ∀ (xs ys : List PyData) (A : Around) (s : Shared) (vs ws : List Value) (as bs : List Addr) (r : Bool), ReadsAll s.heap vs xs as -> ReadsAll s.heap ws ys bs -> PyData.canLayAll0 xs = true -> PyData.canLayAll0 ys = true -> A.units + min (PyData.depthAll xs) (PyData.depthAll ys) < cLine -> ltPs xs ys = some r -> LexAt A s (decide (vs.length < ws.length)) (vs.zip ws) r
 | [], [], A, s, _, _, _, _, r, ra, rb, _, _, _, h => by
  cases ra; cases rb
  rw [ltPs_nil_nil] at h
  cases h
  exact .nil
 | [], _ :: _, A, s, _, _, _, _, r, ra, rb, _, _, _, h => by
  cases ra; cases rb
  rw [ltPs_nil_cons] at h
  cases h
  simpa using LexAt.nil (A := A) (s := s) (fin := true)
 | _ :: _, [], A, s, _, _, _, _, r, ra, rb, _, _, _, h => by
  cases ra; cases rb
  rw [ltPs_cons_nil] at h
  cases h
  simpa using LexAt.nil (A := A) (s := s) (fin := false)
 | x :: xs, y :: ys, A, s, _, _, _, _, r, ra, rb, ha, hb, hu, h => by
  have ha' : x.canLay0 = true /\ PyData.canLayAll0 xs = true := by simpa [PyData.canLayAll0] using ha
  have hb' : y.canLay0 = true /\ PyData.canLayAll0 ys = true := by simpa [PyData.canLayAll0] using hb
  rw [ltPs_cons] at h
  cases ra with
  | cons r1 rs =>
   cases rb with
   | cons r2 rs2 =>
    have e := eqAt_reads x y A s _ _ _ _ r1 r2 ha'.1 hb'.1 (room_head hu)
    rw [List.zip_cons_cons, List.length_cons, List.length_cons]
    by_cases q : PyData.eqv x y = true
    ·rw [if_pos q] at h
     rw [q] at e
     have t := lexAt_reads xs ys A s _ _ _ _ r rs rs2 ha'.2 hb'.2 (room_tail hu) h
     refine .same e ?_
     simpa using t
    ·rw [if_neg q] at h
     rw [Bool.not_eq_true] at q
     rw [q] at e
     exact .diff e (ltAt_reads x y A s _ _ _ _ r r1 r2 ha'.1 hb'.1 (room_head hu) h)
end
end PF
namespace PF
open PySem PySem.Spec
theorem lts_ne {x y : PyData} {xs ys : List PyData} (hx : plD x = true) (hy : plD y = true) (h : x ≠ y) : ltPs (x :: xs) (y :: ys) = ltP x y := by
 rw [ltPs_cons, if_neg (fun z => h ((eqv_pl x y hx hy).mp z))]
theorem lts_eq {x : PyData} {xs ys : List PyData} (hx : plD x = true) : ltPs (x :: xs) (x :: ys) = ltPs xs ys := by
 rw [ltPs_cons, if_pos (eqv_self hx)]
mutual
theorem lt_irr : ∀ a : PyData, plD a = true -> ltP a a ≠ some true
 | .none, _ => by simp [ltP]
 | .int i, _ => by simp [ltP]
 | .str i, _ => by rw [ltP_str]; simp [List.lt_irrefl]
 | .tuple xs, h => by rw [ltP_tup]; exact lts_irr xs (by rw [← plD_tup]; exact h)
 | .bool _, h => by simp [plD] at h
 | .list _, h => by simp [plD] at h
 | .dict _, h => by simp [plD] at h
theorem lts_irr : ∀ xs : List PyData, plDs xs = true -> ltPs xs xs ≠ some true
 | [], _ => by rw [ltPs_nil_nil]; simp
 | x :: xs, h => by
  rw [plDs_cons, Bool.and_eq_true] at h
  rw [lts_eq h.1]
  exact lts_irr xs h.2
end
mutual
theorem lt_as : ∀ a b : PyData, plD a = true -> plD b = true -> ltP a b = some true -> ltP b a = some false
 | .int i, b, _, hb, h => by
  cases b <;> simp [ltP] at h ⊢
  omega
 | .str i, b, _, hb, h => by
  cases b <;> simp [ltP] at h ⊢
  exact List.le_of_lt h
 | .tuple xs, .tuple ys, ha, hb, h => by
  rw [ltP_tup] at h ⊢
  exact lts_as xs ys (by rw [← plD_tup]; exact ha) (by rw [← plD_tup]; exact hb) h
 | .tuple xs, .none, _, _, h => by simp [ltP] at h
 | .tuple xs, .int _, _, _, h => by simp [ltP] at h
 | .tuple xs, .str _, _, _, h => by simp [ltP] at h
 | .tuple xs, .bool _, _, hb, _ => by simp [plD] at hb
 | .tuple xs, .list _, _, hb, _ => by simp [plD] at hb
 | .tuple xs, .dict _, _, hb, _ => by simp [plD] at hb
 | .none, _, _, _, h => by simp [ltP] at h
 | .bool _, _, ha, _, _ => by simp [plD] at ha
 | .list _, _, ha, _, _ => by simp [plD] at ha
 | .dict _, _, ha, _, _ => by simp [plD] at ha
theorem lts_as : ∀ xs ys : List PyData, plDs xs = true -> plDs ys = true -> ltPs xs ys = some true -> ltPs ys xs = some false
 | [], [], _, _, h => by rw [ltPs_nil_nil] at h; cases h
 | [], _ :: _, _, _, h => by rw [ltPs_cons_nil]
 | _ :: _, [], _, _, h => by rw [ltPs_cons_nil] at h; cases h
 | x :: xs, y :: ys, ha, hb, h => by
  rw [plDs_cons, Bool.and_eq_true] at ha hb
  by_cases e : x = y
  ·subst e
   rw [lts_eq ha.1] at h ⊢
   exact lts_as xs ys ha.2 hb.2 h
  ·rw [lts_ne ha.1 hb.1 e] at h
   rw [lts_ne hb.1 ha.1 (Ne.symm e)]
   exact lt_as x y ha.1 hb.1 h
end
theorem lt_ne {a b : PyData} (ha : plD a = true) (h : ltP a b = some true) : a ≠ b := fun e => by subst e; exact lt_irr a ha h
mutual
theorem lt_tot : ∀ a b : PyData, plD a = true -> plD b = true -> ltP a b = some false -> a = b \/ ltP b a = some true
 | .int i, b, _, hb, h => by
  cases b <;> simp [ltP] at h ⊢
  omega
 | .str i, b, _, hb, h => by
  cases b with
  | str j =>
   simp [ltP] at h ⊢
   rcases List.le_iff_lt_or_eq.mp h with z | z
   ·exact .inr z
   ·refine .inl ?_
    cases i; cases j
    simp at z
    simp [z]
  | _ => simp [ltP] at h
 | .tuple xs, .tuple ys, ha, hb, h => by
  rw [ltP_tup] at h ⊢
  rcases lts_tot xs ys (by rw [← plD_tup]; exact ha) (by rw [← plD_tup]; exact hb) h with z | z
  ·exact .inl (by rw [z])
  ·exact .inr z
 | .tuple xs, .none, _, _, h => by simp [ltP] at h
 | .tuple xs, .int _, _, _, h => by simp [ltP] at h
 | .tuple xs, .str _, _, _, h => by simp [ltP] at h
 | .tuple xs, .bool _, _, hb, _ => by simp [plD] at hb
 | .tuple xs, .list _, _, hb, _ => by simp [plD] at hb
 | .tuple xs, .dict _, _, hb, _ => by simp [plD] at hb
 | .none, _, _, _, h => by simp [ltP] at h
 | .bool _, _, ha, _, _ => by simp [plD] at ha
 | .list _, _, ha, _, _ => by simp [plD] at ha
 | .dict _, _, ha, _, _ => by simp [plD] at ha
theorem lts_tot : ∀ xs ys : List PyData, plDs xs = true -> plDs ys = true -> ltPs xs ys = some false -> xs = ys \/ ltPs ys xs = some true
 | [], [], _, _, h => .inl rfl
 | [], _ :: _, _, _, h => by rw [ltPs_nil_cons] at h; cases h
 | _ :: _, [], _, _, h => .inr ltPs_nil_cons
 | x :: xs, y :: ys, ha, hb, h => by
  rw [plDs_cons, Bool.and_eq_true] at ha hb
  by_cases e : x = y
  ·subst e
   rw [lts_eq ha.1] at h ⊢
   rcases lts_tot xs ys ha.2 hb.2 h with z | z
   ·exact .inl (by rw [z])
   ·exact .inr z
  ·rw [lts_ne ha.1 hb.1 e] at h
   rw [lts_ne hb.1 ha.1 (Ne.symm e)]
   rcases lt_tot x y ha.1 hb.1 h with z | z
   ·exact absurd z e
   ·exact .inr z
end
mutual
theorem lt_tr : ∀ a b c : PyData, plD a = true -> plD b = true -> plD c = true -> ltP a b = some true -> ltP b c = some true -> ltP a c = some true
 | .int i, b, c, _, _, _, h, k => by
  cases b <;> simp [ltP] at h
  cases c <;> simp [ltP] at k ⊢
  omega
 | .str i, b, c, _, _, _, h, k => by
  cases b <;> simp [ltP] at h
  cases c <;> simp [ltP] at k ⊢
  exact List.lt_trans h k
 | .tuple xs, .tuple ys, .tuple zs, ha, hb, hc, h, k => by
  rw [ltP_tup] at h k ⊢
  exact lts_tr xs ys zs (by rw [← plD_tup]; exact ha) (by rw [← plD_tup]; exact hb) (by rw [← plD_tup]; exact hc) h k
 | .tuple xs, .tuple ys, .none, _, _, _, _, h => by simp [ltP] at h
 | .tuple xs, .tuple ys, .int _, _, _, _, _, h => by simp [ltP] at h
 | .tuple xs, .tuple ys, .str _, _, _, _, _, h => by simp [ltP] at h
 | .tuple xs, .tuple ys, .bool _, _, _, hb, _, _ => by simp [plD] at hb
 | .tuple xs, .tuple ys, .list _, _, _, hb, _, _ => by simp [plD] at hb
 | .tuple xs, .tuple ys, .dict _, _, _, hb, _, _ => by simp [plD] at hb
 | .tuple xs, .none, _, _, _, _, h, _ => by simp [ltP] at h
 | .tuple xs, .int _, _, _, _, _, h, _ => by simp [ltP] at h
 | .tuple xs, .str _, _, _, _, _, h, _ => by simp [ltP] at h
 | .tuple xs, .bool _, _, _, hb, _, _, _ => by simp [plD] at hb
 | .tuple xs, .list _, _, _, hb, _, _, _ => by simp [plD] at hb
 | .tuple xs, .dict _, _, _, hb, _, _, _ => by simp [plD] at hb
 | .none, _, _, _, _, _, h, _ => by simp [ltP] at h
 | .bool _, _, _, ha, _, _, _, _ => by simp [plD] at ha
 | .list _, _, _, ha, _, _, _, _ => by simp [plD] at ha
 | .dict _, _, _, ha, _, _, _, _ => by simp [plD] at ha
theorem lts_tr : ∀ xs ys zs : List PyData, plDs xs = true -> plDs ys = true -> plDs zs = true -> ltPs xs ys = some true -> ltPs ys zs = some true -> ltPs xs zs = some true
 | [], ys, [], _, _, _, h, k => by
  cases ys with
  | nil => rw [ltPs_nil_nil] at h; cases h
  | cons y ys => rw [ltPs_cons_nil] at k; cases k
 | [], _, _ :: _, _, _, _, _, _ => ltPs_nil_cons
 | _ :: _, [], _, _, _, _, h, _ => by rw [ltPs_cons_nil] at h; cases h
 | _ :: _, _ :: _, [], _, _, _, _, k => by rw [ltPs_cons_nil] at k; cases k
 | x :: xs, y :: ys, z :: zs, ha, hb, hc, h, k => by
  rw [plDs_cons, Bool.and_eq_true] at ha hb hc
  by_cases e : x = y
  ·subst e
   rw [lts_eq ha.1] at h
   by_cases e2 : x = z
   ·subst e2
    rw [lts_eq ha.1] at k ⊢
    exact lts_tr xs ys zs ha.2 hb.2 hc.2 h k
   ·rw [lts_ne ha.1 hc.1 e2] at k ⊢
    exact k
  ·rw [lts_ne ha.1 hb.1 e] at h
   by_cases e2 : y = z
   ·subst e2
    rw [lts_ne ha.1 hb.1 e]
    exact h
   ·rw [lts_ne hb.1 hc.1 e2] at k
    have t := lt_tr x y z ha.1 hb.1 hc.1 h k
    rw [lts_ne ha.1 hc.1 (lt_ne ha.1 t)]
    exact t
end
noncomputable def ltb (a b : PyData) : Bool := match ltP a b with
 | some true => true
 | _ => false
theorem ltb_iff {a b : PyData} : ltb a b = true ↔ ltP a b = some true := by
 unfold ltb
 split
 ·rename_i h; simp [h]
 ·rename_i h
  constructor
  ·intro z; cases z
  ·intro z; exact absurd z h
noncomputable def cmpb (ds : List PyData) : Bool := ds.all fun a => plD a && ds.all fun b => (ltP a b).isSome
theorem cmpb_pl {ds : List PyData} (h : cmpb ds = true) {a : PyData} (m : a ∈ ds) : plD a = true := by
 have := List.all_eq_true.mp h a m
 rw [Bool.and_eq_true] at this
 exact this.1
theorem cmpb_some {ds : List PyData} (h : cmpb ds = true) {a b : PyData} (m : a ∈ ds) (k : b ∈ ds) : ∃ r, ltP a b = some r := by
 have := List.all_eq_true.mp h a m
 rw [Bool.and_eq_true] at this
 have := List.all_eq_true.mp this.2 b k
 exact Option.isSome_iff_exists.mp this
theorem ltb_f {ds : List PyData} (h : cmpb ds = true) {a b : PyData} (m : a ∈ ds) (k : b ∈ ds) (e : ltb a b = false) : a = b \/ ltb b a = true := by
 obtain ⟨r, hr⟩ := cmpb_some h m k
 cases r with
 | true => rw [ltb_iff.mpr hr] at e; cases e
 | false =>
  rcases lt_tot a b (cmpb_pl h m) (cmpb_pl h k) hr with z | z
  ·exact .inl z
  ·exact .inr (ltb_iff.mpr z)
theorem ltb_as {ds : List PyData} (h : cmpb ds = true) {a b : PyData} (m : a ∈ ds) (k : b ∈ ds) (e : ltb a b = true) : ltb b a = false := by
 have := lt_as a b (cmpb_pl h m) (cmpb_pl h k) (ltb_iff.mp e)
 cases q : ltb b a with
 | false => rfl
 | true => rw [ltb_iff.mp q] at this; cases this
theorem ltb_tr {ds : List PyData} (h : cmpb ds = true) {a b c : PyData} (m : a ∈ ds) (k : b ∈ ds) (l : c ∈ ds) (e : ltb a b = true) (e2 : ltb b c = true) : ltb a c = true :=
 ltb_iff.mpr (lt_tr a b c (cmpb_pl h m) (cmpb_pl h k) (cmpb_pl h l) (ltb_iff.mp e) (ltb_iff.mp e2))
theorem ltb_ntr {ds : List PyData} (h : cmpb ds = true) {a b c : PyData} (m : a ∈ ds) (k : b ∈ ds) (l : c ∈ ds) (e : ltb a b = false) (e2 : ltb b c = false) : ltb a c = false := by
 rcases ltb_f h m k e with rfl | z
 ·exact e2
 ·rcases ltb_f h k l e2 with rfl | z2
  ·exact e
  ·exact ltb_as h l m (ltb_tr h l k m z2 z)
noncomputable abbrev RiseD (ds : List PyData) : Prop := ds.Pairwise fun a b => ltb b a = false
noncomputable def insD (x : PyData) : List PyData -> List PyData
 | [] => [x]
 | y :: r => if ltb y x = true then y :: insD x r else x :: y :: r
noncomputable def srtD : List PyData -> List PyData
 | [] => []
 | x :: r => insD x (srtD r)
theorem ins_perm (x : PyData) : ∀ l : List PyData, (insD x l).Perm (x :: l)
 | [] => .refl _
 | y :: r => by
  unfold insD
  split
  ·exact ((ins_perm x r).cons y).trans (.swap x y r)
  ·exact .refl _
theorem srtD_perm : ∀ l : List PyData, (srtD l).Perm l
 | [] => .refl _
 | x :: r => (ins_perm x _).trans ((srtD_perm r).cons x)
theorem ins_rise {ds : List PyData} (h : cmpb ds = true) {x : PyData} (hx : x ∈ ds) : ∀ l : List PyData, (∀ y ∈ l, y ∈ ds) -> RiseD l -> RiseD (insD x l)
 | [], _, _ => List.pairwise_singleton _ _
 | y :: r, hl, hr => by
  obtain ⟨h1, h2⟩ := List.pairwise_cons.mp hr
  have hy := hl y List.mem_cons_self
  unfold insD
  split
  ·rename_i c
   refine List.pairwise_cons.mpr ⟨fun z hz => ?_, ins_rise h hx r (fun z hz => hl z (List.mem_cons_of_mem _ hz)) h2⟩
   rcases List.mem_cons.mp ((ins_perm x r).mem_iff.mp hz) with rfl | hz
   ·exact ltb_as h hy hx c
   ·exact h1 z hz
  ·rename_i c
   have c' : ltb y x = false := by simpa using c
   refine List.pairwise_cons.mpr ⟨fun z hz => ?_, hr⟩
   (rcases List.mem_cons.mp hz with rfl | hz)
   ·exact c'
   ·exact ltb_ntr h (hl z (List.mem_cons_of_mem _ hz)) hy hx (h1 z hz) c'
theorem srtD_rise0 {ds : List PyData} (h : cmpb ds = true) : ∀ l : List PyData, (∀ y ∈ l, y ∈ ds) -> RiseD (srtD l)
 | [], _ => List.Pairwise.nil
 | x :: r, hl => ins_rise h (hl x List.mem_cons_self) _ (fun y hy => hl y (List.mem_cons_of_mem _ ((srtD_perm r).mem_iff.mp hy))) (srtD_rise0 h r fun y hy => hl y (List.mem_cons_of_mem _ hy))
theorem srtD_rise {ds : List PyData} (h : cmpb ds = true) : RiseD (srtD ds) := srtD_rise0 h ds fun _ y => y
theorem rise_one {ds l m : List PyData} (h : cmpb ds = true) (pl : l.Perm ds) (pm : m.Perm ds) (hl : RiseD l) (hm : RiseD m) : l = m := by
 refine List.Perm.eq_of_pairwise (le := fun a b => ltb b a = false) ?_ hl hm (pl.trans pm.symm)
 intro a b ha hb e1 e2
 rcases ltb_f h (pm.mem_iff.mp hb) (pl.mem_iff.mp ha) e1 with z | z
 ·exact z.symm
 ·rw [e2] at z; cases z
theorem srtD_one {ds l : List PyData} (h : cmpb ds = true) (pl : l.Perm ds) (hl : RiseD l) : l = srtD ds := rise_one h pl (srtD_perm ds) hl (srtD_rise h)
end PF
namespace KS
open PySem PySem.W PyProof.Rows
noncomputable def run {α : Type} (lt : Nat -> Nat -> Bool) : KasT α -> α
 | .ret a => a
 | .ask i j k => run lt (k (lt i j))
section
variable {lt : Nat -> Nat -> Bool}
theorem run_bind {α β : Type} (f : α -> KasT β) : ∀ t : KasT α, run lt (t.bind f) = run lt (f (run lt t))
 | .ret a => rfl
 | .ask i j k => run_bind f (k (lt i j))
theorem run_ret {α : Type} (a : α) : run lt (.ret a) = a := rfl
theorem run_ask {α : Type} (i j : Nat) (k : Bool -> KasT α) : run lt (.ask i j k) = run lt (k (lt i j)) := rfl
theorem run_ite {α : Type} (c : Prop) [Decidable c] (a b : KasT α) : run lt (if c then a else b) = if c then run lt a else run lt b := by split <;> rfl
structure Swo (lt : Nat -> Nat -> Bool) : Prop where
 tr : ∀ {a b c}, lt a b = false -> lt b c = false -> lt a c = false
 as : ∀ {a b}, lt a b = true -> lt b a = false
theorem Swo.irr (w : Swo lt) (a : Nat) : lt a a = false := by
 cases h : lt a a with
 | false => rfl
 | true => have := w.as h; rw [h] at this; exact this
noncomputable def Up (lt : Nat -> Nat -> Bool) (p : Array Nat) (m : Nat) : Prop := ∀ k, 0 < k -> k < m -> lt (p.getD k 0) (p.getD (k - 1) 0) = false
noncomputable def Down (lt : Nat -> Nat -> Bool) (p : Array Nat) (m : Nat) : Prop := ∀ k, 0 < k -> k < m -> lt (p.getD (k - 1) 0) (p.getD k 0) = false
theorem Up.all (w : Swo lt) {p : Array Nat} {m : Nat} (h : Up lt p m) : ∀ (d i : Nat), i + d < m -> lt (p.getD (i + d) 0) (p.getD i 0) = false
 | 0, i, _ => w.irr _
 | d + 1, i, hl => by
  have a := h (i + (d + 1)) (by omega) hl
  rw [show i + (d + 1) - 1 = i + d by omega] at a
  exact w.tr a (Up.all w h d i (by omega))
theorem Up.le (w : Swo lt) {p : Array Nat} {m : Nat} (h : Up lt p m) {i j : Nat} (hij : i <= j) (hj : j < m) : lt (p.getD j 0) (p.getD i 0) = false := by
 have := Up.all w h (j - i) i (by omega)
 rwa [show i + (j - i) = j by omega] at this
theorem Down.all (w : Swo lt) {p : Array Nat} {m : Nat} (h : Down lt p m) : ∀ (d i : Nat), i + d < m -> lt (p.getD i 0) (p.getD (i + d) 0) = false
 | 0, i, _ => w.irr _
 | d + 1, i, hl => by
  have a := h (i + (d + 1)) (by omega) hl
  rw [show i + (d + 1) - 1 = i + d by omega] at a
  exact w.tr (Down.all w h d i (by omega)) a
theorem Down.le (w : Swo lt) {p : Array Nat} {m : Nat} (h : Down lt p m) {i j : Nat} (hij : i <= j) (hj : j < m) : lt (p.getD i 0) (p.getD j 0) = false := by
 have := Down.all w h (j - i) i (by omega)
 rwa [show i + (j - i) = j by omega] at this
theorem asc_ok {p : Array Nat} : ∀ (f n : Nat), 0 < n -> Up lt p n -> n <= run lt (kas_asc p f n) /\ run lt (kas_asc p f n) <= n + f /\ Up lt p (run lt (kas_asc p f n)) /\ (run lt (kas_asc p f n) < n + f -> lt (p.getD (run lt (kas_asc p f n)) 0) (p.getD (run lt (kas_asc p f n) - 1) 0) = true)
 | 0, n, _, h => by
  rw [kas_asc, run_ret]
  exact ⟨Nat.le_refl _, Nat.le_refl _, h, fun z => absurd z (by omega)⟩
 | f + 1, n, h0, h => by
  rw [kas_asc, run_ask]
  cases e : lt (p.getD n 0) (p.getD (n - 1) 0) with
  | true =>
   rw [if_pos rfl, run_ret]
   exact ⟨Nat.le_refl _, by omega, h, fun _ => e⟩
  | false =>
   rw [if_neg Bool.false_ne_true]
   have up : Up lt p (n + 1) := fun k k0 k1 => by
    by_cases z : k < n
    ·exact h k k0 z
    ·have : k = n := by omega
     subst this; exact e
   obtain ⟨a, b, c, d⟩ := asc_ok f (n + 1) (by omega) up
   exact ⟨by omega, by omega, c, fun z => d (by omega)⟩
theorem place_ok (w : Swo lt) {p : Array Nat} {k : Nat} (up : Up lt p k) : ∀ (f l r : Nat), l <= r -> r <= k -> r - l <= f -> (∀ i, i < l -> lt (p.getD k 0) (p.getD i 0) = false) -> (∀ i, r <= i -> i < k -> lt (p.getD k 0) (p.getD i 0) = true) ->
  run lt (kas_place p k f l r) <= k /\ (∀ i, i < run lt (kas_place p k f l r) -> lt (p.getD k 0) (p.getD i 0) = false) /\ ∀ i, run lt (kas_place p k f l r) <= i -> i < k -> lt (p.getD k 0) (p.getD i 0) = true
 | 0, l, r, hlr, hrk, hf, h1, h2 => by
  have : l = r := by omega
  subst this
  rw [kas_place, run_ret]
  exact ⟨hrk, h1, h2⟩
 | f + 1, l, r, hlr, hrk, hf, h1, h2 => by
  rw [kas_place, run_ite]
  by_cases z : l ≥ r
  ·rw [if_pos z, run_ret]
   have : l = r := by omega
   subst this
   exact ⟨hrk, h1, h2⟩
  ·rw [if_neg z, run_ask]
   have m1 : l <= (l + r) / 2 := by omega
   have m2 : (l + r) / 2 < r := by omega
   generalize (l + r) / 2 = m at m1 m2
   cases e : lt (p.getD k 0) (p.getD m 0) with
   | true =>
    rw [if_pos rfl]
    refine place_ok w up f l m m1 (by omega) (by omega) h1 fun i i0 i1 => ?_
    by_cases q : r <= i
    ·exact h2 i q i1
    ·cases e2 : lt (p.getD k 0) (p.getD i 0) with
     | true => rfl
     | false =>
      have := w.tr e2 (up.le w (i := m) (j := i) i0 i1)
      rw [e] at this; cases this
   | false =>
    rw [if_neg Bool.false_ne_true]
    refine place_ok w up f (m + 1) r (by omega) hrk (by omega) (fun i i0 => ?_) h2
    exact w.tr e (up.le w (i := i) (j := m) (by omega) (by omega))
end
end KS
namespace KS
open PySem PySem.W PyProof.Rows
section
variable {lt : Nat -> Nat -> Bool}
theorem gd (p : Array Nat) (k : Nat) : p.getD k 0 = (p[k]?).getD 0 := Array.getD_eq_getD_getElem? ..
theorem bub_get {p : Array Nat} {k d : Nat} (hk : k < p.size) (hd : d <= k) (i : Nat) : (bubble p k d).getD i 0 = if i = k - d then p.getD k 0 else if k - d < i /\ i <= k then p.getD (i - 1) 0 else p.getD i 0 := by
 rw [gd, getElem?_bubble hk d hd]
 by_cases c1 : i = k - d
 ·rw [if_pos c1, if_pos c1]; exact (gd p k).symm
 ·rw [if_neg c1, if_neg c1]
  by_cases c2 : k - d < i /\ i <= k
  ·rw [if_pos c2, if_pos c2]; exact (gd p _).symm
  ·rw [if_neg c2, if_neg c2]; exact (gd p _).symm
theorem rev_get {p : Array Nat} {i j : Nat} (hj : j <= p.size) (k : Nat) : (kas_rev p i j).getD k 0 = if i <= k /\ k < j then p.getD (i + j - 1 - k) 0 else p.getD k 0 := by
 unfold kas_rev
 rw [gd, getElem?_mirror_all hj]
 split <;> rw [gd]
theorem rev_perm (p : Array Nat) (i j : Nat) : (kas_rev p i j).Perm p := mirror_perm _ _ _ _
theorem rev_sz (p : Array Nat) (i j : Nat) : (kas_rev p i j).size = p.size := mirror_size _ _ _ _
theorem bin_ok (w : Swo lt) : ∀ (f : Nat) (p : Array Nat) (k : Nat), k + f = p.size -> Up lt p k -> (run lt (kas_bin f p k)).Perm p /\ Up lt (run lt (kas_bin f p k)) p.size
 | 0, p, k, hs, up => by
  rw [kas_bin, run_ret]
  have : k = p.size := by omega
  subst this
  exact ⟨.refl _, up⟩
 | f + 1, p, k, hs, up => by
  rw [kas_bin, run_bind]
  obtain ⟨l1, l2, l3⟩ := place_ok w up k 0 k (Nat.zero_le _) (Nat.le_refl _) (by omega) (fun i h => absurd h (Nat.not_lt_zero _)) (fun i h1 h2 => absurd h2 (by omega))
  generalize run lt (kas_place p k k 0 k) = l at l1 l2 l3
  have hk : k < p.size := by omega
  have up1 : Up lt (bubble p k (k - l)) (k + 1) := fun i i0 i1 => by
   rw [bub_get hk (by omega), bub_get hk (by omega), show k - (k - l) = l by omega]
   by_cases c1 : i < l
   ·rw [if_neg (by omega), if_neg (by omega), if_neg (by omega), if_neg (by omega)]
    exact up i i0 (by omega)
   ·by_cases c2 : i = l
    ·subst c2
     rw [if_pos rfl, if_neg (by omega), if_neg (by omega)]
     exact l2 (i - 1) (by omega)
    ·by_cases c3 : i = l + 1
     ·subst c3
      rw [if_neg (by omega), if_pos (by omega), if_pos (by omega)]
      exact w.as (l3 _ (by omega) (by omega))
     ·rw [if_neg (by omega), if_pos (by omega), if_neg (by omega), if_pos (by omega)]
      exact up (i - 1) (by omega) (by omega)
  obtain ⟨a, b⟩ := bin_ok w f (bubble p k (k - l)) (k + 1) (by rw [bubble_size]; omega) up1
  exact ⟨a.trans (bubble_perm _ _ _), by rw [bubble_size] at b; exact b⟩
noncomputable def Seg (lt : Nat -> Nat -> Bool) (p : Array Nat) (n q : Nat) : Prop := ∀ k, n - 1 - q < k -> k < n -> lt (p.getD k 0) (p.getD (k - 1) 0) = false
theorem rev_down (w : Swo lt) {p : Array Nat} {n q : Nat} (hn : n <= p.size) (hq : q < n) (d : Down lt p n) (s : Seg lt p n q) : Down lt (kas_rev p (n - (q + 1)) n) n := fun k k0 k1 => by
 rw [rev_get hn, rev_get hn]
 by_cases c1 : k < n - (q + 1)
 ·rw [if_neg (by omega), if_neg (by omega)]
  exact d k k0 k1
 ·by_cases c2 : k = n - (q + 1)
  ·rw [if_neg (by omega), if_pos (by omega)]
   exact d.le w (by omega) (by omega)
  ·rw [if_pos (by omega), if_pos (by omega)]
   have := s (n - (q + 1) + n - 1 - (k - 1)) (by omega) (by omega)
   rwa [show n - (q + 1) + n - 1 - (k - 1) - 1 = n - (q + 1) + n - 1 - k by omega] at this
theorem rev_up {p : Array Nat} {n : Nat} (hn : n <= p.size) (d : Down lt p n) : Up lt (kas_rev p 0 n) n := fun k k0 k1 => by
 rw [rev_get hn, rev_get hn, if_pos (by omega), if_pos (by omega)]
 have := d (0 + n - 1 - (k - 1)) (by omega) (by omega)
 rwa [show 0 + n - 1 - (k - 1) - 1 = 0 + n - 1 - k by omega] at this
theorem rev_dn {p : Array Nat} {n : Nat} (hn : n <= p.size) (d : Up lt p n) : Down lt (kas_rev p 0 n) n := fun k k0 k1 => by
 rw [rev_get hn, rev_get hn, if_pos (by omega), if_pos (by omega)]
 have := d (0 + n - 1 - (k - 1)) (by omega) (by omega)
 rwa [show 0 + n - 1 - (k - 1) - 1 = 0 + n - 1 - k by omega] at this
theorem down_succ {p : Array Nat} {n : Nat} (d : Down lt p n) (h : lt (p.getD (n - 1) 0) (p.getD n 0) = false) : Down lt p (n + 1) := fun k k0 k1 => by
 by_cases z : k < n
 ·exact d k k0 z
 ·have : k = n := by omega
  subst this; exact h
structure DescOk (lt : Nat -> Nat -> Bool) (p : Array Nat) (n f : Nat) (r : Array Nat × Nat × Nat) : Prop where
 pm : r.1.Perm p
 n1 : n <= r.2.1
 n2 : r.2.1 <= n + f
 q1 : r.2.2 < r.2.1
 dn : Down lt r.1 r.2.1
 sg : Seg lt r.1 r.2.1 r.2.2
theorem desc_ok (w : Swo lt) : ∀ (f : Nat) (p : Array Nat) (n q : Nat), n + f <= p.size -> q < n -> Down lt p n -> Seg lt p n q -> DescOk lt p n f (run lt (kas_desc f p n q))
 | 0, p, n, q, hs, hq, d, s => by
  rw [kas_desc, run_ret]
  exact ⟨.refl _, Nat.le_refl _, Nat.le_refl _, hq, d, s⟩
 | f + 1, p, n, q, hs, hq, d, s => by
  rw [kas_desc, run_ask]
  cases e : lt (p.getD n 0) (p.getD (n - 1) 0) with
  | true =>
   rw [if_pos rfl, run_ite]
   have sg0 : ∀ p : Array Nat, Seg lt p (n + 1) 0 := fun p k k0 k1 => absurd k1 (by omega)
   by_cases z : q > 0
   ·rw [if_pos z]
    have hn : n <= p.size := by omega
    have d1 : Down lt (kas_rev p (n - (q + 1)) n) (n + 1) := by
     refine down_succ (rev_down w hn hq d s) ?_
     rw [rev_get hn, rev_get hn, if_pos (by omega), if_neg (by omega), show n - (q + 1) + n - 1 - (n - 1) = n - (q + 1) by omega]
     exact w.tr (d.le w (i := n - (q + 1)) (j := n - 1) (by omega) (by omega)) (w.as e)
    obtain ⟨a1, a2, a3, a4, a5, a6⟩ := desc_ok w f _ (n + 1) 0 (by rw [rev_sz]; omega) (by omega) d1 (sg0 _)
    exact ⟨a1.trans (rev_perm _ _ _), by omega, by omega, a4, a5, a6⟩
   ·rw [if_neg z]
    obtain ⟨a1, a2, a3, a4, a5, a6⟩ := desc_ok w f p (n + 1) 0 (by omega) (by omega) (down_succ d (w.as e)) (sg0 _)
    exact ⟨a1, by omega, by omega, a4, a5, a6⟩
  | false =>
   rw [if_neg Bool.false_ne_true, run_ask]
   cases e2 : lt (p.getD (n - 1) 0) (p.getD n 0) with
   | true =>
    rw [if_pos rfl, run_ret]
    exact ⟨.refl _, Nat.le_refl _, by simp, hq, d, s⟩
   | false =>
    rw [if_neg Bool.false_ne_true]
    have s1 : Seg lt p (n + 1) (q + 1) := fun k k0 k1 => by
     by_cases z : k < n
     ·exact s k (by omega) z
     ·have : k = n := by omega
      subst this; exact e
    obtain ⟨a1, a2, a3, a4, a5, a6⟩ := desc_ok w f p (n + 1) (q + 1) (by omega) (by omega) (down_succ d e2) s1
    exact ⟨a1, by omega, by omega, a4, a5, a6⟩
structure CountOk (lt : Nat -> Nat -> Bool) (p : Array Nat) (nrem : Nat) (r : Nat × Array Nat) : Prop where
 pm : r.2.Perm p
 n1 : 1 <= r.1
 n2 : r.1 <= nrem
 up : Up lt r.2 r.1
theorem tail3_ok {p p0 : Array Nat} {n nrem : Nat} (h0 : 0 < n) (hn : n <= nrem) (hz : nrem <= p.size) (pm : p.Perm p0) (d : Down lt p n) : CountOk lt p0 nrem (run lt (kas_tail3 n nrem p)) := by
 unfold kas_tail3
 rw [run_bind, run_ret]
 obtain ⟨a, b, c, _⟩ := asc_ok (lt := lt) (p := kas_rev p 0 n) (nrem - n) n h0 (rev_up (by omega) d)
 exact ⟨(rev_perm _ _ _).trans pm, by show 1 <= _; omega, by show _ <= nrem; omega, c⟩
theorem descPart_ok (w : Swo lt) {p p0 : Array Nat} {n nrem : Nat} (h0 : 0 < n) (hn : n + 1 <= nrem) (hz : nrem <= p.size) (pm : p.Perm p0) (d : Down lt p (n + 1)) : CountOk lt p0 nrem (run lt (kas_descPart n nrem p)) := by
 unfold kas_descPart
 rw [run_bind]
 have D := desc_ok w (nrem - (n + 1)) p (n + 1) 0 (by omega) (by omega) d (fun k k0 k1 => absurd k1 (by omega))
 generalize run lt (kas_desc (nrem - (n + 1)) p (n + 1) 0) = r at D
 obtain ⟨a1, a2, a3, a4, a5, a6⟩ := D
 have sz : r.1.size = p.size := a1.size_eq
 rw [run_ite]
 split
 ·exact tail3_ok (by omega) (by omega) (by rw [rev_sz]; omega) ((rev_perm _ _ _).trans (a1.trans pm)) (rev_down w (by omega) a4 a5 a6)
 ·exact tail3_ok (by omega) (by omega) (by omega) (a1.trans pm) a5
theorem count_ok (w : Swo lt) {p : Array Nat} {nrem : Nat} (h1 : 1 <= nrem) (hz : nrem = p.size) : CountOk lt p nrem (run lt (kas_count nrem p)) := by
 unfold kas_count
 rw [run_bind]
 obtain ⟨a, b, c, d⟩ := asc_ok (lt := lt) (p := p) (nrem - 1) 1 (by omega) (fun k k0 k1 => absurd k1 (by omega))
 generalize run lt (kas_asc p (nrem - 1) 1) = n at a b c d
 rw [run_ite]
 split
 ·rename_i e
  exact ⟨.refl _, a, by show n <= nrem; omega, c⟩
 ·rename_i e
  have hne : n ≠ nrem := fun z => e (by subst z; exact beq_self_eq_true n)
  have d' := d (by omega)
  rw [run_ite]
  split
  ·rename_i h
   rw [run_ask]
   cases e2 : lt (p.getD 0 0) (p.getD (n - 1) 0) with
   | true =>
    rw [if_pos rfl, run_ret]
    exact ⟨.refl _, a, by show n <= nrem; omega, c⟩
   | false =>
    rw [if_neg Bool.false_ne_true]
    refine descPart_ok w (by omega) (by omega) (by rw [rev_sz]; omega) (rev_perm _ _ _) (down_succ (rev_dn (by omega) c) ?_)
    rw [rev_get (by omega), rev_get (by omega), if_pos (by omega), if_neg (by omega), show 0 + n - 1 - (n - 1) = 0 by omega]
    exact w.tr e2 (w.as d')
  ·rename_i h
   have : n = 1 := by omega
   subst this
   exact descPart_ok w (by omega) (by omega) (by omega) (.refl _) (down_succ (fun k k0 k1 => absurd k1 (by omega)) (w.as d'))
theorem sort_ok (w : Swo lt) {n : Nat} (h1 : 1 <= n) : (run lt (kas_sort n)).Perm (List.toArray (List.range n)) /\ Up lt (run lt (kas_sort n)) n := by
 unfold kas_sort
 rw [run_bind]
 have hz : n = (List.toArray (List.range n)).size := by simp
 obtain ⟨a, b, c, d⟩ := count_ok w (p := List.toArray (List.range n)) h1 hz
 generalize run lt (kas_count n (List.toArray (List.range n))) = r at a b c d
 have sz : r.2.size = n := by rw [a.size_eq]; exact hz.symm
 rw [run_ite]
 split
 ·rw [show max r.1 1 = r.1 by omega]
  obtain ⟨e, f⟩ := bin_ok w (n - r.1) r.2 r.1 (by omega) d
  exact ⟨e.trans a, by rw [sz] at f; exact f⟩
 ·rename_i h
  have : r.1 = n := by omega
  rw [this] at d
  exact ⟨a, d⟩
end
end KS
namespace KS
open PySem PySem.W PyProof.Rows
noncomputable def Asks {α : Type} (n : Nat) : KasT α -> (α -> Prop) -> Prop
 | .ret a, P => P a
 | .ask i j k, P => i < n /\ j < n /\ ∀ b, Asks n (k b) P
section
variable {lt : Nat -> Nat -> Bool} {n : Nat}
theorem asks_bind {α β : Type} {f : α -> KasT β} {P : α -> Prop} {P' : β -> Prop} (h : ∀ a, P a -> Asks n (f a) P') : ∀ t : KasT α, Asks n t P -> Asks n (t.bind f) P'
 | .ret a, q => h a q
 | .ask i j k, q => ⟨q.1, q.2.1, fun b => asks_bind h (k b) (q.2.2 b)⟩
theorem wp_run {α : Type} {cmp : Nat -> Nat -> (Bool -> Shared -> Prop) -> Shared -> Prop} {s : Shared} {P : α -> Prop} {Q : α -> Shared -> Prop} (hc : ∀ i j (C : Bool -> Shared -> Prop), i < n -> j < n -> C (lt i j) s -> cmp i j C s) : ∀ t : KasT α, Asks n t P -> Q (run lt t) s -> t.kasWp cmp Q s
 | .ret a, _, q => q
 | .ask i j k, a, q => hc i j _ a.1 a.2.1 (wp_run hc (k (lt i j)) (a.2.2 _) q)
noncomputable def All (n : Nat) (p : Array Nat) : Prop := ∀ x ∈ p.toList, x < n
theorem All.get {p : Array Nat} (h : All n p) (h0 : 0 < n) (k : Nat) : p.getD k 0 < n := by
 rw [gd]
 cases e : p[k]? with
 | none => exact h0
 | some x => exact h x (by rw [← Array.getElem?_toList] at e; exact List.mem_of_getElem? e)
theorem All.perm {p q : Array Nat} (h : All n p) (e : q.Perm p) : All n q := fun x hx => h x ((Array.perm_iff_toList_perm.mp e).mem_iff.mp hx)
theorem asks_asc {p : Array Nat} (h : All n p) (h0 : 0 < n) : ∀ f m : Nat, Asks n (kas_asc p f m) fun _ => True
 | 0, m => trivial
 | f + 1, m => ⟨h.get h0 _, h.get h0 _, fun b => by
  cases b with
  | true => dsimp only; rw [if_pos rfl]; trivial
  | false => dsimp only; rw [if_neg Bool.false_ne_true]; exact asks_asc h h0 f (m + 1)⟩
theorem asks_desc (h0 : 0 < n) : ∀ (f : Nat) (p : Array Nat) (m q : Nat), All n p -> Asks n (kas_desc f p m q) fun r => All n r.1
 | 0, p, m, q, h => h
 | f + 1, p, m, q, h => ⟨h.get h0 _, h.get h0 _, fun b => by
  cases b with
  | true =>
   dsimp only; rw [if_pos rfl]
   split
   ·exact asks_desc h0 f _ _ _ (h.perm (rev_perm _ _ _))
   ·exact asks_desc h0 f _ _ _ h
  | false =>
   dsimp only; rw [if_neg Bool.false_ne_true]
   exact ⟨h.get h0 _, h.get h0 _, fun b => by
    cases b with
    | true => dsimp only; rw [if_pos rfl]; exact h
    | false => dsimp only; rw [if_neg Bool.false_ne_true]; exact asks_desc h0 f _ _ _ h⟩⟩
theorem asks_tail3 (h0 : 0 < n) {p : Array Nat} (h : All n p) (m r : Nat) : Asks n (kas_tail3 m r p) fun x => All n x.2 := by
 unfold kas_tail3
 refine asks_bind (P := fun _ => True) (fun a _ => ?_) _ (asks_asc (h.perm (rev_perm _ _ _)) h0 _ _)
 exact h.perm (rev_perm _ _ _)
theorem asks_descPart (h0 : 0 < n) {p : Array Nat} (h : All n p) (m r : Nat) : Asks n (kas_descPart m r p) fun x => All n x.2 :=
 asks_bind (fun a ha => by
  split
  ·exact asks_tail3 h0 (All.perm ha (rev_perm _ _ _)) _ _
  ·exact asks_tail3 h0 ha _ _) _ (asks_desc h0 _ _ _ _ h)
theorem asks_count (h0 : 0 < n) {p : Array Nat} (h : All n p) (r : Nat) : Asks n (kas_count r p) fun x => All n x.2 :=
 asks_bind (fun a _ => by
  split
  ·exact h
  ·split
   ·exact ⟨h.get h0 _, h.get h0 _, fun b => by
     cases b with
     | true => dsimp only; rw [if_pos rfl]; exact h
     | false => dsimp only; rw [if_neg Bool.false_ne_true]; exact asks_descPart h0 (h.perm (rev_perm _ _ _)) _ _⟩
   ·exact asks_descPart h0 h _ _) _ (asks_asc h h0 _ _)
theorem asks_place (h0 : 0 < n) {p : Array Nat} (h : All n p) (k : Nat) : ∀ f l r : Nat, Asks n (kas_place p k f l r) fun _ => True
 | 0, l, r => trivial
 | f + 1, l, r => by
  rw [kas_place]
  split
  ·trivial
  ·exact ⟨h.get h0 _, h.get h0 _, fun b => by
    cases b with
    | true => dsimp only; rw [if_pos rfl]; exact asks_place h0 h k f _ _
    | false => dsimp only; rw [if_neg Bool.false_ne_true]; exact asks_place h0 h k f _ _⟩
theorem asks_bin (h0 : 0 < n) : ∀ (f : Nat) (p : Array Nat) (k : Nat), All n p -> Asks n (kas_bin f p k) fun _ => True
 | 0, p, k, h => trivial
 | f + 1, p, k, h => asks_bind (fun l _ => asks_bin h0 f _ _ (h.perm (bubble_perm _ _ _))) _ (asks_place h0 h k _ _ _)
theorem asks_sort (h0 : 0 < n) : Asks n (kas_sort n) fun _ => True :=
 asks_bind (fun r hr => by
  split
  ·exact asks_bin h0 _ _ _ hr
  ·trivial) _ (asks_count h0 (fun x hx => by simpa using hx) n)
end
end KS
namespace KS
open PySem PySem.W PyProof.Rows
section
variable {prog : Program} {w : World} {A : Around} {E : Value -> Shared -> Prop} {s : Shared}
theorem pair_snd (vs : List Value) : (vs.toArray.zip vs.toArray).map (·.2) = vs.toArray := by
 apply Array.toList_inj.mp
 rw [Array.toList_map, ksk_zip]
 show (vs.zip vs).map Prod.snd = vs
 rw [List.map_snd_zip (Nat.le_refl _)]
theorem getD_range (vs : List Value) : (List.range vs.length).map (fun i => vs.getD i Value.none) = vs := by
 apply List.ext_getElem?
 intro i
 rw [List.getElem?_map]
 by_cases h : i < vs.length
 ·rw [List.getElem?_range h, List.getElem?_eq_getElem h]
  simp [h]
 ·rw [List.getElem?_eq_none_iff.mpr (by simpa using h), List.getElem?_eq_none_iff.mpr (by simpa using h)]; rfl
theorem sort_own {a : Addr} {vs : List Value} {n : Nat} {lt : Nat -> Nat -> Bool} {P : PySem.Fin -> Shared -> Prop} (ho : s.heap.get? a = some (seqObj "list" vs.toArray n)) (h64 : vs.length < 64) (wo : Swo lt)
  (hk : 2 <= vs.length -> ∀ s' : Shared, (∀ b o, b ≠ a -> s.heap.get? b = some o -> s'.heap.get? b = some o) ->
   wpAny (model prog w) A (keyKind' vs.toArray) (fun κ s'' => s'' = s' /\ ∀ (i j : Nat) (C : Bool -> Shared -> Prop), i < vs.length -> j < vs.length -> C (lt i j) s' -> wpAny (model prog w) A (keyLt' κ (vs.getD i Value.none) (vs.getD j Value.none)) C (fun _ _ => False) s') (fun _ _ => False) s')
  (h : ∀ p : List Nat, p.Perm (List.range vs.length) -> p.Pairwise (fun i j => lt j i = false) -> P (.done (.ret .none)) { s with heap := sortedHeap s.heap a vs (p.map fun i => vs.getD i Value.none).toArray }) :
  wpAny (model prog w) A (Builtin.«list.sort» ⟨[.ref a], []⟩) P E s := by --
 rw [list_sort_plain]
 (have ha : a < s.heap.objs.size := Heap.lt_size ho)
 (refine wpAny_bind (listItems_at ho rfl ?_))
 (refine wpAny_bind (listUpdate_at ho rfl ?_ (by rw [List.size_toArray, sizeLine_eq]; omega) (Nat.zero_le _)))
 obtain ⟨e1, ho1⟩ : ∃ e1, (s.heap.update a (Obj.mapSeq fun _ => (#[] : Array Value))).get? a = some (seqObj "list" #[] e1) := ⟨_, get?_update_seq ho (fun _ => #[])⟩
 (refine wpAny_bind (seqEpoch_at ho1 rfl ?_))
 (refine wpAny_bind (wpAny_newTuple ?_ (by show vs.length <= _; rw [sizeLine_eq]; omega)))
 (refine wpAny_bind (wpAny_newList ?_ (Nat.zero_le _)))
 (refine wpAny_holding ?_)
 generalize hh : ((s.heap.update a (Obj.mapSeq fun _ => (#[] : Array Value))).push (seqObj "tuple" vs.toArray 0)).push (seqObj "list" #[] 0) = h6
 have ho6 : h6.get? a = some (seqObj "list" #[] e1) := by
  rw [← hh, Heap.get?_push_ne _ _ _ (by rw [size_push', Heap.size_update]; exact Nat.ne_of_lt (Nat.lt_succ_of_lt ha)), Heap.get?_push_ne _ _ _ (by rw [Heap.size_update]; exact Nat.ne_of_lt ha)]
  exact ho1
 have kp : ∀ b o, b ≠ a -> s.heap.get? b = some o -> h6.get? b = some o := fun b o hb e => by
  have hlt : b < s.heap.objs.size := Heap.lt_size e
  rw [← hh, Heap.get?_push_ne _ _ _ (by rw [size_push', Heap.size_update]; exact Nat.ne_of_lt (Nat.lt_succ_of_lt hlt)), Heap.get?_push_ne _ _ _ (by rw [Heap.size_update]; exact Nat.ne_of_lt hlt), Heap.get?_update_ne _ _ _ _ hb]
  exact e
 show wpAny (model prog w) A _ P E { s with heap := h6 }
 have hz : ∀ out : Array Value, sortedHeap s.heap a vs out = h6.update a (Obj.mapSeq fun _ => out) := fun out => by rw [← hh]; rfl
 dsimp only
 by_cases h2 : vs.toArray.size < 2 --
 ·rw [if_pos h2, if_pos h2]
  refine wpAny_bind (wpAny_pure ?_)
  rw [StateT.run_pure]
  refine wpAny_bind (wpAny_pure ?_)
  dsimp only
  (refine wpAny_bind (seqEpoch_at ho6 rfl ?_))
  have e0 : (arrOf (SortSt.mk' general' (vs.toArray.zip vs.toArray) #[] 7 none)).map (·.2) = vs.toArray := pair_snd vs
  rw [e0]
  refine wpAny_bind (listUpdate_at ho6 rfl ?_ (Nat.zero_le _) (by rw [List.size_toArray, sizeLine_eq]; omega))
  (simp only [bne_self_eq_false, Bool.false_eq_true, if_false])
  have t := h (List.range vs.length) (List.Perm.refl _) (by
   rw [List.size_toArray] at h2
   match hv : vs.length with
   | 0 => simp
   | 1 => simp
   | k + 2 => omega)
  rw [getD_range, hz] at t
  exact wpAny_pure t
 ·rw [if_neg h2, if_neg h2]
  have h2' : 2 <= vs.length := by rw [List.size_toArray] at h2; omega
  refine wpAny_bind (wpAny_mono (hk h2' { s with heap := h6 } kp) ?_ fun _ _ x => x.elim)
  rintro κ _ ⟨rfl, ask⟩
  have hw : (kas_sort vs.length).kasWp (kas_ask prog w A κ vs) (fun p s' => s' = { s with heap := h6 } /\ p.Perm (List.toArray (List.range vs.length)) /\ Up lt p vs.length) { s with heap := h6 } :=
   wp_run (lt := lt) (n := vs.length) (fun i j C hi hj hC => ask i j C hi hj hC) (kas_sort vs.length) (asks_sort (by omega)) ⟨rfl, sort_ok wo (by omega)⟩
  refine wpAny_bind (wpAny_mono (kat_run (Q := fun st' s' => ∃ p : Array Nat, p.size = vs.length /\ arrOf st' = p.map (kas_item (vs.toArray.zip vs.toArray)) /\ failedOf st' = none /\ s' = { s with heap := h6 } /\ p.Perm (List.toArray (List.range vs.length)) /\ Up lt p vs.length)
   rfl h2' h64 (fun p' st' s' a1 a2 a3 a4 => ⟨p', a1, a2, a3, a4⟩) hw) ?_ fun _ _ e => e)
  rintro ⟨⟨⟩, st'⟩ s' ⟨p, hp, har, hf, rfl, pm, up⟩
  dsimp only
  have hout := kat_snds rfl har
  rw [hout]
  (refine wpAny_bind (seqEpoch_at ho6 rfl ?_))
  have hsz : (List.toArray (p.toList.map fun i => vs.getD i Value.none)).size <= sizeLine := by rw [List.size_toArray, List.length_map, Array.length_toList, hp, sizeLine_eq]; omega
  refine wpAny_bind (listUpdate_at ho6 rfl ?_ (Nat.zero_le _) (Nat.le_succ_of_le hsz))
  rw [hf]
  (simp only [bne_self_eq_false, Bool.false_eq_true, if_false])
  have t := h p.toList (by have := Array.perm_iff_toList_perm.mp pm; simpa using this) (by
   (rw [List.pairwise_iff_getElem])
   intro i j hi hj hij
   rw [Array.length_toList] at hi hj
   have u := Up.le wo up (Nat.le_of_lt hij) (by omega)
   simpa [Array.getD, hi, hj] using u)
  rw [hz] at t
  exact wpAny_pure t
end
end KS
namespace PF
open PySem PySem.Spec PySem.W PyProof.Rows
open PySem.SeqAt
noncomputable def tyD : PyData -> String
 | .none => "NoneType"
 | .bool _ => "bool"
 | .int _ => "int"
 | .str _ => "str"
 | .list _ => "list"
 | .tuple _ => "tuple"
 | .dict _ => "dict"
section
variable {prog : Program} {w : World} {A : Around} {E : Value -> Shared -> Prop} {s : Shared}
theorem reads_typ {v : Value} {d : PyData} {bs : List Addr} (h : Reads s.heap v d bs) : s.TypeIs v (tyD d) := by
 cases h with
 | none => exact typeIs_none s
 | bool b => exact PySem.typeIs_bool s b
 | int i t => exact typeIs_int s i t
 | str x t => exact typeIs_str s x t
 | list h1 h2 h3 h4 => exact ⟨_, h1, h2⟩
 | tuple h1 h2 h3 h4 => exact ⟨_, h1, h2⟩
 | dict h1 h2 h3 h4 h5 => exact ⟨_, h1, h2⟩
theorem one_false {x y : Value} {b : Bool} {Q : Bool -> Shared -> Prop} (h : LtAt A s x y b) (q : Q b s) : wpAny (model prog w) A (oneLt' false x y) Q E s :=
 kat_one x y (h prog w E _ (show PySem.W.BoolBack Q (.bool b) s from q))
theorem one_true {l b : Addr} {us ws : Array Value} {r : Bool} {Q : Bool -> Shared -> Prop} (hl : s.heap.IsTuple l us) (hb : s.heap.IsTuple b ws) (hu : A.units < cLine) (lx : LexAt A.in1 s (decide (us.size < ws.size)) (us.toList.zip ws.toList) r) (q : Q r s) : wpAny (model prog w) A (oneLt' true (.ref l) (.ref b)) Q E s := by
 obtain ⟨⟨c1, d1, e1, s1⟩, o1, k1, n1, q1⟩ := id hl
 obtain ⟨⟨c2, d2, e2, s2⟩, o2, k2, n2, q2⟩ := id hb
 simp only at k1 q1 k2 q2
 subst k1 q1 k2 q2
 rw [oneLt'_eq]
 simp only [if_true]
 (refine wpAny_bind (wpAny_cRoomFor hu ?_))
 refine wpAny_bind (wpAny_callSpecialIfBound?_slot (T := "tuple") (id := "tuple.__lt__") ⟨_, o1, rfl⟩ F.slot_tuple_lt ?_)
 refine call_meets F.slot_tuple_lt ⟨_, o1, rfl⟩ F.entry_tuple_lt (F.args_tuple_lt_2 _ _) (tup_lt l b us ws n1 n2 d1 d2 s1 s2 r) ⟨o1, o2, lx, ?_⟩
 show wpAny (model prog w) A (truthOfDropped (.bool r) >>= fun x => pure x) Q E s
 exact wpAny_bind (wpAny_truthy_bool (wpAny_pure q))
theorem types_ok : ∀ {vs : List Value} {ds : List PyData} {bs : List Addr} {Q : List Value -> Shared -> Prop}, ReadsAll s.heap vs ds bs -> Q (ds.map fun d => Value.type (tyD d)) s -> wpAny (model prog w) A (vs.mapM typeOf) Q E s
 | _, _, _, _, .nil, h => by rw [List.mapM_nil]; exact wpAny_pure h
 | _, _, _, _, .cons r rs, h => by
  rw [List.mapM_cons]
  exact wpAny_bind (wpAny_typeOf (reads_typ r) (wpAny_bind (types_ok rs (wpAny_pure h))))
inductive Fsts (h : Heap) : List PyData -> List (Option Value) -> Prop
 | nil : Fsts h [] []
 | no {ds : List PyData} {fs : List (Option Value)} : Fsts h ds fs -> Fsts h (.tuple [] :: ds) (none :: fs)
 | yes {ds xs : List PyData} {x : PyData} {u : Value} {bs : List Addr} {fs : List (Option Value)} : Reads h u x bs -> Fsts h ds fs -> Fsts h (.tuple (x :: xs) :: ds) (some u :: fs)
theorem firsts_ok : ∀ {vs : List Value} {ds : List PyData} {bs : List Addr}, ReadsAll s.heap vs ds bs -> (∀ d ∈ ds, ∃ xs, d = .tuple xs) -> ∃ fs, Fsts s.heap ds fs /\ ∀ {Q : List (Option Value) -> Shared -> Prop}, Q fs s -> wpAny (model prog w) A (vs.mapM firstOfTuple') Q E s
 | _, _, _, .nil, _ => ⟨[], .nil, fun h => by rw [List.mapM_nil]; exact wpAny_pure h⟩
 | _, _, _, .cons (v := v) r rs, ht => by
  obtain ⟨fs, F, k⟩ := firsts_ok rs fun d hd => ht d (List.mem_cons_of_mem _ hd)
  obtain ⟨xs, e⟩ := ht _ List.mem_cons_self
  subst e
  cases r with
  | @tuple a o us n _ _ h1 h2 h3 h4 =>
   have go : ∀ f : Option Value, us[0]? = f -> ∀ {Q : List (Option Value) -> Shared -> Prop}, Q (f :: fs) s -> wpAny (model prog w) A ((Value.ref a :: _).mapM firstOfTuple') Q E s := fun f hf Q h => by
    rw [List.mapM_cons, kas_first_eq]
    refine wpAny_bind (wpAny_bind (wpAny_typeOf (T := "tuple") ⟨_, h1, h2⟩ ?_))
    rw [if_neg (by simp)]
    refine wpAny_bind (listItems_at h1 h3 (wpAny_pure ?_))
    rw [hf]
    exact wpAny_bind (k (wpAny_pure h))
   cases xs with
   | nil =>
    have : us[0]? = none := by
     have e : us.toList = [] := by cases h5 : us.toList with
      | nil => rfl
      | cons a b => rw [h5] at h4; cases h4
     rw [← Array.getElem?_toList, e]; rfl
    exact ⟨_, .no F, go _ this⟩
   | cons x xs =>
    cases h5 : us.toList with
    | nil => rw [h5] at h4; cases h4
    | cons u t =>
     rw [h5] at h4
     cases h4 with
     | cons r1 r2 => exact ⟨_, .yes r1 F, go _ (by rw [← Array.getElem?_toList, h5]; rfl)⟩
theorem fsts_all : ∀ {ds : List PyData} {fs : List (Option Value)}, Fsts s.heap ds fs -> fs.all (·.isSome) = true -> ∃ xs us bs, fs = us.map some /\ ReadsAll s.heap us xs bs /\ xs.length = ds.length /\ ∀ (i : Nat) (d : PyData), ds[i]? = some d -> ∃ x r, xs[i]? = some x /\ d = .tuple (x :: r)
 | _, _, .nil, _ => ⟨[], [], _, rfl, .nil, rfl, fun i d e => by simp at e⟩
 | _, _, .no F, h => by simp at h
 | _, _, .yes r F, h => by
  obtain ⟨xs, us, bs, e, ra, hl, k⟩ := fsts_all F (by simpa using h)
  refine ⟨_ :: xs, _ :: us, _, by rw [e]; rfl, .cons r ra, by simp [hl], fun i d e => ?_⟩
  cases i with
  | zero => simp at e; subst e; exact ⟨_, _, rfl, rfl⟩
  | succ i => simpa using k i d (by simpa using e)
noncomputable def KindT (ds : List PyData) (κ : SortKind) : Prop := κ = general' \/ κ = oneType' \/ ∃ b, κ = tuples' b /\ (b = true -> ∃ T : String, T ≠ "tuple" /\ ∀ d ∈ ds, ∃ x r, d = .tuple (x :: r) /\ tyD x = T)
theorem kind_tup {vs : List Value} {ds : List PyData} {bs : List Addr} (ra : ReadsAll s.heap vs ds bs) (ht : ∀ d ∈ ds, ∃ xs, d = .tuple xs) (hn : ds ≠ []) : ∃ κ, KindT ds κ /\ ∀ {Q : SortKind -> Shared -> Prop}, Q κ s -> wpAny (model prog w) A (keyKind' vs.toArray) Q E s := by
 obtain ⟨fs, F, k⟩ := firsts_ok (prog := prog) (w := w) (A := A) (E := E) ra ht
 have hk : ∀ {Q : SortKind -> Shared -> Prop}, wpAny (model prog w) A (do
   if fs.toArray.all (·.isSome) then
    rule "list.sort.keys-are-tuples" --
    return tuples' ((← oneTypeOnly' (fs.toArray.filterMap id)).any (· != .type "tuple"))
   if (fs.toArray[0]?.bind id).isSome then return general'
   return if (← oneTypeOnly' vs.toArray).isSome then oneType' else general') Q E s -> wpAny (model prog w) A (keyKind' vs.toArray) Q E s := fun {Q} h => by
  (rw [keyKind'_eq, List.mapM_toArray, map_eq_pure_bind])
  exact wpAny_bind (wpAny_bind (k (wpAny_pure h)))
 by_cases ha : fs.all (·.isSome) = true
 ·obtain ⟨xs, us, cs, e, ru, hl, kk⟩ := fsts_all F ha
  have e1 : fs.toArray.all (·.isSome) = true := by simpa using ha
  have e2 : fs.toArray.filterMap id = us.toArray := by rw [e]; simp
  obtain ⟨x0, xr, hx⟩ : ∃ x0 xr, xs = x0 :: xr := by
   cases xs with
   | nil => rw [List.length_nil] at hl; exact absurd (List.length_eq_zero_iff.mp hl.symm) hn
   | cons a b => exact ⟨a, b, rfl⟩
  by_cases hT : xs.all (fun x => decide (tyD x = tyD x0)) = true
  ·refine ⟨tuples' (Value.type (tyD x0) != Value.type "tuple"), .inr (.inr ⟨_, rfl, fun hb => ⟨tyD x0, fun z => ?_, fun d hd => ?_⟩⟩), fun {Q} h => hk ?_⟩
   ·rw [z] at hb; simp at hb
   ·obtain ⟨i, hi⟩ := List.mem_iff_getElem?.mp hd
    obtain ⟨x, r, h1, h2⟩ := kk i d hi
    exact ⟨x, r, h2, of_decide_eq_true (List.all_eq_true.mp hT x (List.mem_of_getElem? h1))⟩
   ·rw [if_pos e1, e2]
    refine wpAny_bind (wpAny_rule ?_)
    (rw [oneTypeOnly'_eq, List.mapM_toArray, map_eq_pure_bind])
    refine wpAny_bind (wpAny_bind (wpAny_bind (types_ok ru (wpAny_pure ?_))))
    rw [hx]
    have h0 : (List.map (fun d => Value.type (tyD d)) (x0 :: xr)).toArray[0]? = some (Value.type (tyD x0)) := by simp
    have hall : ((List.map (fun d => Value.type (tyD d)) (x0 :: xr)).toArray.all fun x => x == Value.type (tyD x0)) = true := by
     (simp only [List.all_toArray, List.all_map, List.all_eq_true])
     intro y hy
     have := of_decide_eq_true (List.all_eq_true.mp hT y (by rw [hx]; exact hy))
     simp [this]
    rw [h0]
    simp only [hall, if_true]
    (exact wpAny_pure (wpAny_pure h))
  ·refine ⟨tuples' false, .inr (.inr ⟨_, rfl, fun hb => by cases hb⟩), fun {Q} h => hk ?_⟩
   rw [if_pos e1, e2]
   refine wpAny_bind (wpAny_rule ?_)
   (rw [oneTypeOnly'_eq, List.mapM_toArray, map_eq_pure_bind])
   refine wpAny_bind (wpAny_bind (wpAny_bind (types_ok ru (wpAny_pure ?_))))
   rw [hx]
   have h0 : (List.map (fun d => Value.type (tyD d)) (x0 :: xr)).toArray[0]? = some (Value.type (tyD x0)) := by simp
   have hall : ((List.map (fun d => Value.type (tyD d)) (x0 :: xr)).toArray.all fun x => x == Value.type (tyD x0)) = false := by
    rw [← hx]
    rw [Bool.not_eq_true, List.all_eq_false] at hT
    obtain ⟨y, hy, hne⟩ := hT
    simp only [List.all_toArray, List.all_map, List.all_eq_false]
    refine ⟨y, hy, ?_⟩
    simpa using hne
   rw [h0]
   simp only [hall, Bool.false_eq_true, if_false]
   (exact wpAny_pure (wpAny_pure h))
 ·have e1 : ¬ fs.toArray.all (·.isSome) = true := by simpa using ha
  by_cases hf : (fs.toArray[0]?.bind id).isSome = true
  ·exact ⟨general', .inl rfl, fun {Q} h => hk (by rw [if_neg e1, if_pos hf]; exact wpAny_pure h)⟩
  ·refine ⟨oneType', .inr (.inl rfl), fun {Q} h => hk ?_⟩
   rw [if_neg e1, if_neg hf, oneTypeOnly'_eq, List.mapM_toArray, map_eq_pure_bind]
   refine wpAny_bind (wpAny_bind (wpAny_bind (types_ok ra (wpAny_pure ?_))))
   obtain ⟨d0, dr, rfl⟩ : ∃ d0 dr, ds = d0 :: dr := by
    cases ds with
    | nil => exact absurd rfl hn
    | cons a b => exact ⟨a, b, rfl⟩
   have h0 : (List.map (fun d => Value.type (tyD d)) (d0 :: dr)).toArray[0]? = some (Value.type (tyD d0)) := by simp
   have hall : ((List.map (fun d => Value.type (tyD d)) (d0 :: dr)).toArray.all fun x => x == Value.type (tyD d0)) = true := by
    (simp only [List.all_toArray, List.all_map, List.all_eq_true])
    intro y hy
    obtain ⟨z, rfl⟩ := ht y hy
    obtain ⟨z0, rfl⟩ := ht d0 List.mem_cons_self
    simp [tyD]
   rw [h0]
   simp only [hall, if_true]
   (exact wpAny_pure (wpAny_pure h))
noncomputable def Fst2 (b : Bool) (i : Nat) (xs ys : List PyData) : Prop := b = true -> i = 0 -> ∀ x y xr yr, xs = x :: xr -> ys = y :: yr -> ltP x y ≠ none -> PyData.eqv x y = false -> (∃ i j, x = .int i /\ y = .int j) \/ ∃ i j, x = .str i /\ y = .str j
theorem kat_reads {b : Bool} : ∀ (xs ys : List PyData) (vs ws : List Value) (as bs : List Addr) (i : Nat) (r : Bool) (Q : Bool -> Shared -> Prop), ReadsAll s.heap vs xs as -> ReadsAll s.heap ws ys bs -> PyData.canLayAll0 xs = true -> PyData.canLayAll0 ys = true -> A.units + min (PyData.depthAll xs) (PyData.depthAll ys) < cLine -> ltPs xs ys = some r -> Fst2 b i xs ys -> Q r s ->
  KatLex prog w A b (decide (vs.length < ws.length)) Q (vs.zip ws) i s
 | [], [], _, _, _, _, i, r, Q, ra, rb, _, _, _, h, _, q => by
  cases ra; cases rb
  rw [ltPs_nil_nil] at h
  cases h
  exact kat_nil q
 | [], _ :: _, _, _, _, _, i, r, Q, ra, rb, _, _, _, h, _, q => by
  cases ra; cases rb
  rw [ltPs_nil_cons] at h
  cases h
  exact kat_nil (by simpa using q)
 | _ :: _, [], _, _, _, _, i, r, Q, ra, rb, _, _, _, h, _, q => by
  cases ra; cases rb
  rw [ltPs_cons_nil] at h
  cases h
  exact kat_nil (by simpa using q)
 | x :: xs, y :: ys, _, _, _, _, i, r, Q, ra, rb, ha, hb, hu, h, f2, q => by
  have ha' : x.canLay0 = true /\ PyData.canLayAll0 xs = true := by simpa [PyData.canLayAll0] using ha
  have hb' : y.canLay0 = true /\ PyData.canLayAll0 ys = true := by simpa [PyData.canLayAll0] using hb
  rw [ltPs_cons] at h
  cases ra with
  | cons r1 rs =>
   cases rb with
   | cons r2 rs2 =>
    have e := eqAt_reads x y A s _ _ _ _ r1 r2 ha'.1 hb'.1 (room_head hu)
    rw [List.zip_cons_cons, List.length_cons, List.length_cons]
    refine kat_cons (e prog w _ _ ?_)
    by_cases c : PyData.eqv x y = true
    ·rw [if_pos c] at h
     rw [c]
     have t := kat_reads (b := b) xs ys _ _ _ _ (i + 1) r Q rs rs2 ha'.2 hb'.2 (room_tail hu) h (fun _ z => by omega) q
     refine kat_yes ?_
     simpa using t
    ·rw [if_neg c] at h
     rw [Bool.not_eq_true] at c
     rw [c]
     refine kat_no ?_
     by_cases z : (b && i == 0) = true
     ·rw [z]
      rw [Bool.and_eq_true] at z
      rcases f2 z.1 (by simpa using z.2) x y xs ys rfl rfl (by rw [h]; simp) c with ⟨p, p', rfl, rfl⟩ | ⟨p, p', rfl, rfl⟩
      ·rw [ltP_int] at h
       cases h
       cases r1; cases r2
       exact oneLt_int q
      ·rw [ltP_str] at h
       cases h
       cases r1; cases r2
       exact oneLt_str q
     ·rw [Bool.not_eq_true] at z
      rw [z]
      exact one_false (ltAt_reads x y A s _ _ _ _ r r1 r2 ha'.1 hb'.1 (room_head hu) h) q
theorem lt_kind {ds : List PyData} {κ : SortKind} (hκ : KindT ds κ) {xs ys : List PyData} {v u : Value} {as bs : List Addr} {r : Bool} {Q : Bool -> Shared -> Prop} (mx : PyData.tuple xs ∈ ds) (my : PyData.tuple ys ∈ ds) (ra : Reads s.heap v (.tuple xs) as) (rb : Reads s.heap u (.tuple ys) bs) (hx : (PyData.tuple xs).canLay0 = true) (hy : (PyData.tuple ys).canLay0 = true)
  (hu : A.units + 66 < cLine) (dx : (PyData.tuple xs).depth <= 64) (h : ltP (.tuple xs) (.tuple ys) = some r) (q : Q r s) : wpAny (model prog w) A (keyLt' κ v u) Q E s := by
 have hu' : A.units + min (PyData.tuple xs).depth (PyData.tuple ys).depth < cLine := by omega
 rcases hκ with rfl | rfl | ⟨b, rfl, hb⟩
 ·exact one_false (ltAt_reads _ _ A s _ _ _ _ r ra rb hx hy hu' h) q
 ·rw [keyLt'_oneType]
  cases ra with
  | tuple h1 h2 h3 h4 =>
   cases rb with
   | tuple k1 k2 k3 k4 =>
    rw [ltP_tup] at h
    refine one_true ⟨_, h1, h2, _, h3⟩ ⟨_, k1, k2, _, k3⟩ (room_here hu') ?_ q
    have t := lexAt_reads xs ys A.in1 s _ _ _ _ r h4 k4 hx hy (room_in hu') h
    simpa using t
 ·cases ra with
  | tuple h1 h2 h3 h4 =>
   cases rb with
   | tuple k1 k2 k3 k4 =>
    rw [ltP_tup] at h
    refine kat_lt h1 h3 k1 k3 ?_
    have hd : PyData.depthAll xs < (PyData.tuple xs).depth := by simp only [PyData.depth]; omega
    have t := kat_reads (prog := prog) (w := w) (A := A) (b := b) xs ys _ _ _ _ 0 r Q h4 k4 hx hy (by omega) h (fun hb' _ x y xr yr e1 e2 hn ne => ?_) q
    ·simpa using t
    ·obtain ⟨T, hT, al⟩ := hb hb'
     obtain ⟨x', r', e3, t3⟩ := al _ mx
     obtain ⟨y', r'', e4, t4⟩ := al _ my
     rw [e1] at e3
     rw [e2] at e4
     cases e3; cases e4
     cases x <;> cases y <;> simp [ltP, tyD] at hn t3 t4 ⊢
     all_goals (subst t3; simp at hT t4)
end
end PF
namespace PF
open PySem PySem.Spec
open L2
section
variable {X : Cx}
noncomputable def gInt (ds : List D) (s : S) : R D := match ds with
 | [.da (.bool b)] => .ok (.int (if b then 1 else 0)) s
 | _ => .bad
theorem c_int : CB X (.type "int") gInt := cb_of fun pins sh σ H as s xs ds us Q I rl rs ru h => by
 unfold gInt at h
 split at h
 ·obtain ⟨v, rfl, rv⟩ := rs.one
  cases rv.bl_inv
  obtain ⟨u, rfl, r9⟩ := vals1 ru
  cases r9
  exact PySem.call_int_bool (show EP X pins σ Q _ _ from ⟨.int _, H, I.tok _, ⟨_, rfl⟩, Dn.now (Q := Q) h rl (.da (.int _))⟩)
 ·exact h.elim
end
end PF
namespace PF
open PySem PySem.Spec PySem.W PyProof.Rows
open PySem.SeqAt
noncomputable def ltN (ds : List PyData) (i j : Nat) : Bool := match ds[i]?, ds[j]? with
 | some a, some b => ltb a b
 | some _, none => true
 | none, _ => false
theorem ltN_swo {ds : List PyData} (h : cmpb ds = true) : KS.Swo (ltN ds) where
 tr {a b c} h1 h2 := by
  unfold ltN at h1 h2 ⊢
  cases ha : ds[a]? with
  | none => rfl
  | some x =>
   rw [ha] at h1
   cases hb : ds[b]? with
   | none => rw [hb] at h1; cases h1
   | some y =>
    rw [hb] at h1 h2
    cases hc : ds[c]? with
    | none => rw [hc] at h2; cases h2
    | some z =>
     rw [hc] at h2
     exact ltb_ntr h (List.mem_of_getElem? ha) (List.mem_of_getElem? hb) (List.mem_of_getElem? hc) h1 h2
 as {a b} h1 := by
  unfold ltN at h1 ⊢
  cases ha : ds[a]? with
  | none => rw [ha] at h1; cases h1
  | some x =>
   rw [ha] at h1
   cases hb : ds[b]? with
   | none => rfl
   | some y =>
    rw [hb] at h1
    exact ltb_as h (List.mem_of_getElem? ha) (List.mem_of_getElem? hb) h1
section
variable {prog : Program} {w : World} {A : Around} {E : Value -> Shared -> Prop} {s : Shared}
theorem reads_get {h : Heap} : ∀ {vs : List Value} {ds : List PyData} {bs : List Addr} {i : Nat}, ReadsAll h vs ds bs -> i < ds.length -> ∃ d cs, ds[i]? = some d /\ Reads h (vs.getD i Value.none) d cs
 | _, _, _, _, .nil, hi => by simp at hi
 | _, _, _, 0, .cons r rs, _ => ⟨_, _, rfl, r⟩
 | _, _, _, i + 1, .cons r rs, hi => by
  obtain ⟨d, cs, e, q⟩ := reads_get (i := i) rs (by simpa using hi)
  exact ⟨d, cs, by simpa using e, by simpa using q⟩
theorem ask_ok {vs : List Value} {ds : List PyData} {bs : List Addr} (ra : ReadsAll s.heap vs ds bs) (hc : cmpb ds = true) (hok : ds.all okD = true) (h2 : 2 <= vs.length) (hu : A.units + 66 < cLine) :
  wpAny (model prog w) A (keyKind' vs.toArray) (fun κ s'' => s'' = s /\ ∀ (i j : Nat) (C : Bool -> Shared -> Prop), i < vs.length -> j < vs.length -> C (ltN ds i j) s -> wpAny (model prog w) A (keyLt' κ (vs.getD i Value.none) (vs.getD j Value.none)) C (fun _ _ => False) s) (fun _ _ => False) s := by
 have hl : vs.length = ds.length := ReadsAll.length ds vs bs ra
 have ask : ∀ (κ : SortKind), (∀ (x y : PyData) (v u : Value) (as cs : List Addr) (r : Bool) (C : Bool -> Shared -> Prop), x ∈ ds -> y ∈ ds -> Reads s.heap v x as -> Reads s.heap u y cs -> ltP x y = some r -> C r s -> wpAny (model prog w) A (keyLt' κ v u) C (fun _ _ => False) s) ->
   s = s /\ ∀ (i j : Nat) (C : Bool -> Shared -> Prop), i < vs.length -> j < vs.length -> C (ltN ds i j) s -> wpAny (model prog w) A (keyLt' κ (vs.getD i Value.none) (vs.getD j Value.none)) C (fun _ _ => False) s := fun κ k => by
  refine ⟨rfl, fun i j C hi hj hC => ?_⟩
  obtain ⟨x, as, ex, rx⟩ := reads_get (i := i) ra (by omega)
  obtain ⟨y, cs, ey, ry⟩ := reads_get (i := j) ra (by omega)
  have mx := List.mem_of_getElem? ex
  have my := List.mem_of_getElem? ey
  obtain ⟨r, hr⟩ := cmpb_some hc mx my
  refine k x y _ _ as cs r C mx my rx ry hr ?_
  have : ltN ds i j = r := by
   unfold ltN
   rw [ex, ey]
   show ltb x y = r
   unfold ltb
   rw [hr]
   cases r <;> rfl
  rw [← this]; exact hC
 obtain ⟨d0, dr, hd⟩ : ∃ d0 dr, ds = d0 :: dr := by
  cases ds with
  | nil => rw [List.length_nil] at hl; omega
  | cons a b => exact ⟨a, b, rfl⟩
 have m0 : d0 ∈ ds := by rw [hd]; exact List.mem_cons_self
 have cmp0 : ∀ d ∈ ds, ∃ r, ltP d0 d = some r := fun d hm => cmpb_some hc m0 hm
 have lay : ∀ d ∈ ds, d.canLay0 = true /\ d.depth <= 64 := fun d hm => by
  have := List.all_eq_true.mp hok d hm
  unfold okD at this
  rw [Bool.and_eq_true, decide_eq_true_eq] at this
  exact this
 have typ : ∀ v ∈ vs, ∃ d cs, d ∈ ds /\ Reads s.heap v d cs := fun v hv => by
  obtain ⟨i, hi⟩ := List.mem_iff_getElem?.mp hv
  have hil := (List.getElem?_eq_some_iff.mp hi).1
  obtain ⟨x, as, ex, rx⟩ := reads_get (i := i) ra (by omega)
  have : vs.getD i Value.none = v := by simp [hi]
  rw [this] at rx
  exact ⟨x, as, List.mem_of_getElem? ex, rx⟩
 cases d0 with
 | int i0 =>
  have ai : ∀ d ∈ ds, ∃ i, d = .int i := fun d hm => by
   obtain ⟨r, hr⟩ := cmp0 d hm
   cases d <;> simp [ltP] at hr
   exact ⟨_, rfl⟩
  refine kas_kind (T := .type "int") h2 (fun v hv => ?_) (by decide) (by decide) (ask oneType' fun x y v u as cs r C mx my rx ry hr hC => ?_)
  ·obtain ⟨d, cs, hm, rd⟩ := typ v hv
   obtain ⟨i, rfl⟩ := ai d hm
   cases rd
   exact Looks.of_pure rfl
  ·obtain ⟨i, rfl⟩ := ai x mx
   obtain ⟨j, rfl⟩ := ai y my
   rw [ltP_int] at hr
   cases hr
   cases rx; cases ry
   exact kat_lt_int hC
 | str i0 =>
  have ai : ∀ d ∈ ds, ∃ i, d = .str i := fun d hm => by
   obtain ⟨r, hr⟩ := cmp0 d hm
   cases d <;> simp [ltP] at hr
   exact ⟨_, rfl⟩
  refine kas_kind (T := .type "str") h2 (fun v hv => ?_) (by decide) (by decide) (ask oneType' fun x y v u as cs r C mx my rx ry hr hC => ?_)
  ·obtain ⟨d, cs, hm, rd⟩ := typ v hv
   obtain ⟨i, rfl⟩ := ai d hm
   cases rd
   exact Looks.of_pure rfl
  ·obtain ⟨i, rfl⟩ := ai x mx
   obtain ⟨j, rfl⟩ := ai y my
   rw [ltP_str] at hr
   cases hr
   cases rx; cases ry
   exact kas_lt_str hC
 | tuple t0 =>
  have ai : ∀ d ∈ ds, ∃ i, d = .tuple i := fun d hm => by
   obtain ⟨r, hr⟩ := cmp0 d hm
   cases d <;> simp [ltP] at hr
   exact ⟨_, rfl⟩
  obtain ⟨κ, hκ, k⟩ := kind_tup (prog := prog) (w := w) (A := A) (E := fun _ _ => False) ra ai (by rw [hd]; simp)
  refine k (ask κ fun x y v u as cs r C mx my rx ry hr hC => ?_)
  obtain ⟨i, rfl⟩ := ai x mx
  obtain ⟨j, rfl⟩ := ai y my
  exact lt_kind hκ mx my rx ry (lay _ mx).1 (lay _ my).1 hu (lay _ mx).2 hr hC
 | none => obtain ⟨r, hr⟩ := cmp0 _ m0; simp [ltP] at hr
 | bool _ => obtain ⟨r, hr⟩ := cmp0 _ m0; simp [ltP] at hr
 | list _ => obtain ⟨r, hr⟩ := cmp0 _ m0; simp [ltP] at hr
 | dict _ => obtain ⟨r, hr⟩ := cmp0 _ m0; simp [ltP] at hr
theorem sorted_own {r : Addr} {ds : List PyData} {Q : Value -> Shared -> Prop} (h64 : ds.length < 64) (hc : cmpb ds = true) (hok : ds.all okD = true) (hu : A.units + 70 < cLine)
  (coll : ∀ (R : List Value -> Shared -> Prop), (∀ h' d' tk (vs : List Value) (bs : List Addr), ReadsAll h' vs ds bs -> (∀ b u, s.heap.get? b = some u -> h'.get? b = some u) ->
    (∀ (h1 h2 : Heap) (d2 : Drawn) (tk2 e : Nat) (p : List Nat), p.Perm (List.range vs.length) -> (p.map fun i => ds.getD i .none) = srtD ds -> (∀ b u, s.heap.get? b = some u -> h1.get? b = some u) -> (∀ b u, h'.get? b = some u -> h1.get? b = some u) -> h2.get? h1.objs.size = some (seqObj "list" (p.map fun i => vs.getD i Value.none).toArray e) -> (∀ b u, h1.get? b = some u -> h2.get? b = some u) ->
     Q (.ref h1.objs.size) { s with heap := h2, drawn := d2, toks := tk2 }) -> R vs { s with heap := h', drawn := d', toks := tk }) -> wpAny (model prog w) A.in1 (collect (.ref r)) R E s) :
  wpAny (model prog w) A (call (.builtin "sorted") [.ref r]) Q E s := by --
 refine Calls.call_function_entry kind_sorted plain_sorted entry_sorted (args_sorted1 _) ?_; unfold Builtin.«sorted»
 refine wpAny_bind (m := checkCount "sorted" 1 1 _) (wpAny_pure (wpAny_bind (coll _ fun h' d' tk vs bs ra kp q => ?_)))
 have hl : vs.length = ds.length := ReadsAll.length ds vs bs ra
 refine wpAny_bind (wpAny_newList ?_ (by rw [sizeLine_eq]; omega)); have g : (h'.push { cls := .type "list", data := .seq vs.toArray }).get? h'.objs.size = some (seqObj "list" vs.toArray 0) := Heap.get?_push_size _ rfl
 have hin1 := in1_units A
 have hin2 := in1_units A.in1
 refine wpAny_bind (wpAny_holding (wpAny_call_entry slot_list_sort ⟨_, g, rfl⟩ entry_list_sort (KS.sort_own g (by omega) (ltN_swo hc) (fun h2 s' k' => ask_ok (ds := ds) (bs := bs) ?_ hc hok h2 (by omega)) fun p pm pw => ⟨_, rfl, ?_⟩) (args_list_sort _)))
 ·refine PyProof.Rows.ReadsAll.keeps (fun b o eb => k' b o (Nat.ne_of_lt (Heap.lt_size eb)) (Heap.get?_push_of_some _ eb)) ra
 ·obtain ⟨e, ge⟩ := sortedHeap_at (out := (p.map fun i => vs.getD i Value.none).toArray) g
  have es : (p.map fun i => ds.getD i .none) = srtD ds := by
   have e0 : (List.range vs.length).map (fun i => ds.getD i .none) = ds := by
    rw [hl]
    apply List.ext_getElem?
    intro i
    rw [List.getElem?_map]
    by_cases z : i < ds.length
    ·rw [List.getElem?_range z, List.getElem?_eq_getElem z]
     simp [z]
    ·rw [List.getElem?_eq_none_iff.mpr (by simpa using z), List.getElem?_eq_none_iff.mpr (by simpa using z)]; rfl
   refine srtD_one hc ?_ ?_
   ·have := pm.map fun i => ds.getD i .none
    rwa [e0] at this
   ·rw [RiseD, List.pairwise_map]
    refine List.Pairwise.imp_of_mem ?_ pw
    intro a b ma mb h
    have la : a < ds.length := by have := List.mem_range.mp (pm.mem_iff.mp ma); omega
    have lb : b < ds.length := by have := List.mem_range.mp (pm.mem_iff.mp mb); omega
    unfold ltN at h
    rw [List.getElem?_eq_getElem la, List.getElem?_eq_getElem lb] at h
    simpa [la, lb] using h
  refine wpAny_pure ⟨_, rfl, q h' _ d' tk e p pm es kp (fun b u z => z) ge fun b u eb => ?_⟩
  have lb := Heap.lt_size eb
  rw [sortedHeap_old (Nat.ne_of_lt lb) (by rw [Heap.size_push]; exact Nat.lt_succ_of_lt lb)]
  exact Heap.get?_push_of_some _ eb
end
end PF
namespace PF
open PySem PySem.Spec
open L2
theorem TDs.pick {as : As} {H : Hp} {vs : List V} {ds : List PyData} (t : TDs as H vs ds) : ∀ p : List Nat, (∀ i ∈ p, i < ds.length) -> TDs as H (p.map fun i => vs.getD i .non) (p.map fun i => ds.getD i .none)
 | [], _ => .nil
 | i :: r, h => by
  have hi := h i List.mem_cons_self
  obtain ⟨v, e, td⟩ := t.get (i := i) (d := ds[i]) (List.getElem?_eq_getElem hi)
  refine .cons ?_ (TDs.pick t r fun j hj => h j (List.mem_cons_of_mem _ hj))
  show TD as H (vs.getD i .non) (ds.getD i .none)
  rw [show vs.getD i .non = v by simp [e], show ds.getD i .none = ds[i] by simp [hi]]
  exact td
theorem vals_get {vs : List V} {us : List Value} (r : Vals vs us) {i : Nat} {v : V} (e : vs[i]? = some v) : ∃ u, us[i]? = some u /\ RelV v u := by
 induction r generalizing i with
 | nil => simp at e
 | cons a b ih =>
  cases i with
  | zero => simp at e; subst e; exact ⟨_, rfl, a⟩
  | succ i => simpa using ih (by simpa using e)
theorem vals_pick {vs : List V} {us : List Value} (r : Vals vs us) : ∀ p : List Nat, (∀ i ∈ p, i < vs.length) -> Vals (p.map fun i => vs.getD i .non) (p.map fun i => us.getD i Value.none)
 | [], _ => .nil
 | i :: q, h => by
  have hi := h i List.mem_cons_self
  obtain ⟨u, e, rv⟩ := vals_get r (i := i) (List.getElem?_eq_getElem hi)
  refine .cons ?_ (vals_pick r q fun j hj => h j (List.mem_cons_of_mem _ hj))
  show RelV (vs.getD i .non) (us.getD i Value.none)
  rw [show vs.getD i .non = vs[i] by simp [hi], show us.getD i Value.none = u by simp [e]]
  exact rv
section
variable {X : Cx}
noncomputable def gSorted (m : Bool) (ds : List D) (s : S) : R D := match ds with
 | [d] => match (seqD s d).bind pures with
  | some xs => if xs.length < 64 /\ cmpb xs = true /\ xs.all okD = true then newL m ((srtD xs).map D.da) s else .bad
  | none => .bad
 | _ => .bad
theorem c_sorted (m : Bool) (hu : X.A.units + 70 < cLine) : CB X (.builtin "sorted") (gSorted m) := cb_of fun pins sh σ H as s xs ds us Q I rl rs ru h => by
 unfold gSorted at h
 split at h
 ·rename_i d
  split at h
  ·rename_i es he
   split at h
   ·rename_i hcond
    obtain ⟨h64, hc, hok⟩ := hcond
    obtain ⟨v, rfl, rv⟩ := rs.one
    cases e1 : seqD s d with
    | none => rw [e1] at he; cases he
    | some ys =>
     rw [e1] at he
     have hp : pures ys = some es := he
     have e2 := pures_eq hp
     subst e2
     obtain ⟨p, zs, rfl, sq, rz⟩ := seq_ok rl rv e1
     obtain ⟨u, rfl, ruv⟩ := vals1 ru
     cases ruv
     have td := rz.td
     have fin : ∀ (its : List Value), Vals zs its -> (∃ (T : String) (o : Obj) (n : Nat), (T = "list" \/ T = "tuple") /\ sh.heap.get? p = some o /\ o.cls = .type T /\ o.data = .seq its.toArray n) -> wpAny (model X.prog X.w) X.A (call (.builtin "sorted") [.ref p]) (EP X pins σ Q) X.xe sh := fun its rv ⟨T, o, n, hT, ho, hcl, hd⟩ => by
      obtain ⟨bs, ra⟩ := td.reads I rv
      have hl2 : its.length = es.length := PySem.SeqAt.ReadsAll.length es its bs ra
      refine sorted_own (ds := es) h64 hc hok hu fun R k => PySem.wpAny_collect_seq p hT ho hcl hd (fun h' kp => ?_) (by rw [List.size_toArray, sizeLine_eq]; omega)
      have k1 := k h' sh.drawn sh.toks its bs (PyProof.Rows.ReadsAll.keeps kp ra) kp
      refine k1 fun h1 h2 d2 tk2 e p' pm es' kp1 kp1' g kp2 => ?_
      have I1 : Inv X pins σ H { sh with heap := h1, toks := sh.toks } := I.un (Un.kept kp1) (I.hok.kept kp1)
      have hz : zs.length = es.length := td.length
      have hlt : ∀ i ∈ p', i < es.length := fun i hi => by have := List.mem_range.mp (pm.mem_iff.mp hi); omega
      have vp := vals_pick rv p' (fun i hi => by rw [hz]; exact hlt i hi)
      have hlen : p'.length = es.length := by rw [pm.length_eq, List.length_range, hl2]
      have I2 : Inv X pins σ (upd H h1.objs.size (.lst (p'.map fun i => zs.getD i .non))) { sh with heap := h2, toks := tk2 } := I1.laid (t' := tk2) kp2 (Nat.le_refl _) ⟨by rw [List.length_map, hlen, sizeLine_eq]; omega, _, e, vp, by simpa [PyProof.Rows.seqObj] using g⟩
      have nw : New H h1.objs.size (.lst (p'.map fun i => zs.getD i .non)) (upd H h1.objs.size (.lst (p'.map fun i => zs.getD i .non))) := ⟨I1.hok.fresh (Nat.le_refl _), rfl⟩
      have tp := (td.pick p' hlt).rd (K := X.K)
      rw [es'] at tp
      exact ⟨.ref h1.objs.size, _, I2.drew d2, rfl, newL_ok h rl tp nw⟩
     rcases sq with sq | sq
     ·obtain ⟨its, rv, ⟨o, k, h1, h2, h3, h4⟩, z⟩ := I.list sq
      exact fin its rv ⟨"list", o, _, .inl rfl, h1, h2, h4⟩
     ·obtain ⟨its, rv, ⟨o, h1, h2, k, h3⟩, z⟩ := I.tuple sq
      exact fin its rv ⟨"tuple", o, _, .inr rfl, h1, h2, h3⟩
   ·exact h.elim
  ·exact h.elim
 ·exact h.elim
end
end PF
namespace L2
open PySem PySem.Spec PyProof.Rows
open MeetsSeq MeetsSeq2 MeetsSeq3 SeqRoads2 --
noncomputable def RawD (h : Heap) (d : Addr) (es : Array DictEntry) (ep : Nat) : Prop := ∃ o, h.get? d = some o /\ o.ExactDict /\ o.data = .dict es ep
end L2
namespace L2
open PySem PySem.Spec PyProof.Rows
open MeetsSeq MeetsSeq2 MeetsSeq3 SeqRoads2 --
section
variable {prog : Program} {w : World} {A : Around} {E : Value -> Shared -> Prop} {s : Shared} {it d : Addr} {es : Array DictEntry} {ep i : Nat}
theorem RawD.typeIs (x : RawD s.heap d es ep) : s.TypeIs (.ref d) "dict" := let ⟨_, ho, hc, _⟩ := x; ⟨_, ho, hc.1⟩
end
end L2
namespace L2
open PySem PySem.Spec PyProof.Rows
section
variable {P : Program} {w : World} {H : Hp} {h : Heap} {a : Addr}
mutual
theorem KD.reads (ok : HOk P w H h) : ∀ {v : V} {d : PyData} {u : Value}, KD H v d -> RelV v u -> ∃ bs, Reads h u d bs
 | _, _, u, .non, r => by cases (show u = Value.none from r); exact ⟨_, .none⟩
 | _, _, u, .int i, r => by obtain ⟨t, e⟩ := (show ∃ t, u = Value.int i t from r); subst e; exact ⟨_, .int i t⟩
 | _, _, u, .str x, r => by obtain ⟨t, e⟩ := (show ∃ t, u = Value.str x t from r); subst e; exact ⟨_, .str x t⟩
 | _, _, u, .tup (p := b) (xs := xs) e q, r => by
  cases (show u = Value.ref b from r)
  obtain ⟨z, its, rv, p⟩ := (show ObjOk P w H h b (.tup xs) from ok b _ e)
  obtain ⟨o, h1, h2, k, h3⟩ := p.tup
  obtain ⟨bs, ra⟩ := KDs.reads ok q rv
  exact ⟨_, .tuple h1 h2 h3 ra⟩
theorem KDs.reads (ok : HOk P w H h) : ∀ {vs : List V} {ds : List PyData} {us : List Value}, KDs H vs ds -> Vals vs us -> ∃ bs, ReadsAll h us ds bs
 | _, _, _, .nil, r => by cases r; exact ⟨_, .nil⟩
 | _, _, _, .cons a b, r => by
  cases r with
  | cons r1 r2 =>
   obtain ⟨as, h1⟩ := KD.reads ok a r1
   obtain ⟨bs, h2⟩ := KDs.reads ok b r2
   exact ⟨_, .cons h1 h2⟩
end
theorem kd_is (ok : HOk P w H h) {b : Addr} {k : PyData} (hk : PF.keyOk k = true) (e : KD H (.ref b) k) : (PF.dataKind P w).is h k b := ⟨hk, e.reads ok rfl⟩
noncomputable abbrev KE (H : Hp) : List (PyData × V) -> List (PyData × Addr × Value) -> Prop := Paired fun p q => p.1 = q.1 /\ (PF.keyOk p.1 = true /\ KD H (.ref q.2.1) p.1) /\ RelV p.2 q.2.2
theorem KE.val {kvs : List (PyData × V)} {xs : List (PyData × Addr × Value)} (r : KE H kvs xs) (k : PyData) : RelO (valV kvs k) ((atKey xs k).map (·.2)) := by
 induction r with
 | nil => exact True.intro
 | @cons p q ps qs hh t ih =>
  by_cases e : p.1 = k
  ·rw [valV_pos e, show atKey (q :: qs) k = some q.2 by simp [atKey, List.find?_cons, hh.1.symm.trans e]]
   exact hh.2.2
  ·have e' : ¬ q.1 = k := fun z => e (hh.1.trans z)
   rw [valV_neg e, show atKey (q :: qs) k = atKey qs k by simp [atKey, List.find?_cons, e']]
   exact ih
theorem dd_of {kvs : List (PyData × V)} (ok : HOk P w H h) (e : H a = some (.dD kvs)) : kvs.length <= sizeLine /\ (a == sysModules) = false /\ ∃ xs, KE H kvs xs /\ h.DictOfH (PF.dataKind P w) a xs := by
 obtain ⟨z, y, xs, r, o, es, ep, h1, h2, h3, h4, h5⟩ := (show ObjOk P w H h a (.dD kvs) from ok a _ e)
 refine ⟨z, y, xs, r, o, es, ep, h1, h2, h3, h4, ?_, h5⟩
 clear h3 h4 h5 z e
 induction r with
 | nil => intro x hx; exact nomatch hx
 | @cons p q ps qs hq t ih =>
  intro x hx
  rcases List.mem_cons.mp hx with e | hx
  ·subst e
   exact kd_is ok (hq.1 ▸ hq.2.1.1) (hq.1 ▸ hq.2.1.2)
  ·exact ih x hx
theorem dk_nil (ok : HOk P w H h) (e : H a = some (.dK [])) : (a == sysModules) = false /\ h.DictOfH (PF.dataKind P w) a [] := by
 obtain ⟨z, y, vs, r, o, es, ep, h1, h2, h3, h4, h5, h6⟩ := (show ObjOk P w H h a (.dK []) from ok a _ e)
 cases r
 have : es.toList = [] := by
  cases q : es.toList with
  | nil => rfl
  | cons x y => rw [q] at h5; cases h5
 exact ⟨y, o, es, ep, h1, h2, h3, by rw [this]; rfl, (fun x hx => by cases hx), List.nodup_nil⟩
end
section
variable {X : Cx} {pins : List (Addr × Obj)} {σ : St} {H : Hp} {s : Shared} {a b : Addr} {v : V} {r : Value} {k : PyData} {kvs : List (PyData × V)} {A : Around} {E : Value -> Shared -> Prop}
noncomputable def DD (H : Hp) (a : Addr) (kvs : List (PyData × V)) : Prop := H a = some (.dD kvs) \/ (H a = some (.dK []) /\ kvs = [])
theorem DD.rd {P : Program} {w : World} {h : Heap} (ok : HOk P w H h) (e : DD H a kvs) : kvs.length <= sizeLine /\ (a == sysModules) = false /\ ∃ xs, KE H kvs xs /\ h.DictOfH (PF.dataKind P w) a xs := by
 rcases e with e | ⟨e, rfl⟩
 ·exact dd_of ok e
 ·exact ⟨Nat.zero_le _, (dk_nil ok e).1, [], .nil, (dk_nil ok e).2⟩
theorem dk_room (hu : A.units + 11 < cLine) {P : Program} {w : World} : (PF.dataKind P w).room A.in1 := by
 show A.in1.units + 10 < cLine
 have : A.in1.units <= A.units + 1 := by first | exact Nat.le_refl _ | (unfold Around.in1; simp)
 omega
theorem dd_get1 {Q : Value -> Shared -> Prop} (hu : A.units + 11 < cLine) (I : Inv X pins σ H s) (e : DD H a kvs) (hk : PF.keyOk k = true) (eb : KD H (.ref b) k) (h : ∀ w' s', Inv X pins σ H s' -> RelV ((valV kvs k).getD .non) w' -> Q w' s') : wpAny (model X.prog X.w) A (call (.builtin "dict.get") [.ref a, .ref b]) Q E s := by
 obtain ⟨z, hd, xs, rel, dd⟩ := e.rd I.hok
 exact call_meetsIn PySem.F.slot_dict_get dd.typeIs PySem.F.entry_dict_get (PySem.F.args_dict_get_2 _ _) (meetsH_dict_get (PF.dataKind X.prog X.w) a b hd) ⟨dk_room hu, k, xs, kd_is I.hok hk eb, dd, h _ _ (I.tok _) ((rel.val k).getD rfl)⟩
theorem dd_get2 {d : V} {rd : Value} {Q : Value -> Shared -> Prop} (hu : A.units + 11 < cLine) (I : Inv X pins σ H s) (e : DD H a kvs) (hk : PF.keyOk k = true) (eb : KD H (.ref b) k) (rr : RelV d rd) (h : ∀ w' s', Inv X pins σ H s' -> RelV ((valV kvs k).getD d) w' -> Q w' s') : wpAny (model X.prog X.w) A (call (.builtin "dict.get") [.ref a, .ref b, rd]) Q E s := by
 obtain ⟨z, hd, xs, rel, dd⟩ := e.rd I.hok
 exact call_meetsIn PySem.F.slot_dict_get dd.typeIs PySem.F.entry_dict_get (PySem.F.args_dict_get_3 _ _ _) (meetsH_dict_get_default (PF.dataKind X.prog X.w) a b hd rd) ⟨dk_room hu, k, xs, kd_is I.hok hk eb, dd, h _ _ (I.tok _) ((rel.val k).getD rr)⟩
end
end L2
namespace PF
open PySem PySem.Spec
open L2
section
variable {K : PySem.W.Frag} {as : As} {H : Hp}
mutual
theorem TD.kd : ∀ {v : V} {d : PyData}, TD as H v d -> plD d = true -> KD H v d
 | _, _, .non, _ => .non
 | _, _, .int i, _ => .int i
 | _, _, .str x, _ => .str x
 | _, _, .tup n e r, h => .tup e (TDs.kd r (by rw [← plD_tup]; exact h))
 | _, _, .bl b, h => by simp [plD] at h
 | _, _, .lst _ _ _, h => by simp [plD] at h
 | _, _, .dct _ _, h => by simp [plD] at h
theorem TDs.kd : ∀ {v : List V} {d : List PyData}, TDs as H v d -> plDs d = true -> KDs H v d
 | _, _, .nil, _ => .nil
 | _, _, .cons a r, h => by
  rw [plDs_cons, Bool.and_eq_true] at h
  exact .cons (TD.kd a h.1) (TDs.kd r h.2)
end
theorem tup_out {s : S} (rl : Rel K as H s) {q : Addr} {xs : List V} (e : H q = some (.tup xs)) : ¬ as.has q := by
 rintro (h | h)
 ·obtain ⟨n, hn⟩ := mem_as.mp h
  have hl : n < s.length := by rw [← rl.len]; exact (List.getElem?_eq_some_iff.mp hn).1
  have ro := rl.ob n q _ hn (List.getElem?_eq_getElem hl)
  cases ho : s[n] with
  | lst ds => rw [ho] at ro; obtain ⟨ys, e2, _⟩ := ro; rw [e] at e2; cases e2
  | dct kvs =>
   rw [ho] at ro
   rcases ro with ⟨l, e2, _⟩ | ⟨l, _, e2, _⟩ <;> (rw [e] at e2; cases e2)
  | set _ => rw [ho] at ro; exact ro.elim
  | ins _ _ => rw [ho] at ro; obtain ⟨_, _, _, _, e2, _⟩ := ro; rw [e] at e2; cases e2
  | gone => rw [ho] at ro; exact ro.elim
 ·obtain ⟨ys, e2⟩ := rl.hs q h
  rw [e] at e2; cases e2
mutual
theorem KD.td {s : S} (rl : Rel K as H s) : ∀ {v : V} {d : PyData}, KD H v d -> TD as H v d
 | _, _, .non => .non
 | _, _, .int i => .int i
 | _, _, .str x => .str x
 | _, _, .tup e r => .tup (tup_out rl e) e (KDs.td rl r)
theorem KDs.td {s : S} (rl : Rel K as H s) : ∀ {v : List V} {d : List PyData}, KDs H v d -> TDs as H v d
 | _, _, .nil => .nil
 | _, _, .cons a r => .cons (KD.td rl a) (KDs.td rl r)
end
noncomputable def dGet {α : Type} (kvs : List (PyData × α)) (k : PyData) : Option α := (kvs.find? fun e => decide (e.1 = k)).map (·.2)
noncomputable def dPut {α : Type} (kvs : List (PyData × α)) (k : PyData) (v : α) : List (PyData × α) :=
 if (kvs.any fun e => decide (e.1 = k)) = true then kvs.map (fun e => if e.1 = k then (e.1, v) else e) else kvs ++ [(k, v)]
noncomputable def isK : PyData -> Bool
 | .int _ => true
 | .str _ => true
 | _ => false
noncomputable def kSame {α : Type} (kvs : List (PyData × α)) (k : PyData) : Bool := (isK k && kvs.all fun e => isK e.1) || (isT k && kvs.all fun e => isT e.1)
noncomputable def keyD : D -> Option PyData
 | .da d => some d
 | _ => none
theorem kP_inj {a b : Key} (h : kP a = kP b) : a = b := by
 cases a <;> cases b <;> simp [kP] at h <;> rw [h]
theorem isK_kP {k : PyData} (h : isK k = true) : ∃ a, k = kP a := by
 cases k <;> simp [isK] at h
 ·exact ⟨.inl _, rfl⟩
 ·exact ⟨.inr _, rfl⟩
theorem val_pv (l : List (Key × V)) (k : Key) : valV (pvK l) (kP k) = valV l k := by
 induction l with
 | nil => rfl
 | cons p r ih =>
  by_cases e : p.1 = k
  ·rw [valV_pos e, show pvK (p :: r) = (kP p.1, p.2) :: pvK r from rfl, valV_pos (by rw [e])]
  ·rw [valV_neg e, show pvK (p :: r) = (kP p.1, p.2) :: pvK r from rfl, valV_neg (fun z => e (kP_inj z)), ih]
theorem put_pv (l : List (Key × V)) (k : Key) (v : V) : pvK (putK l k v) = putK (pvK l) (kP k) v := by
 unfold putK
 rw [valV_any, valV_any, val_pv]
 split
 ·unfold pvK
  (rw [List.map_map, List.map_map])
  refine List.map_congr_left fun e _ => ?_
  show (kP (if e.1 = k then (e.1, v) else e).1, (if e.1 = k then (e.1, v) else e).2) = if kP e.1 = kP k then (kP e.1, v) else (kP e.1, e.2)
  by_cases z : e.1 = k
  ·rw [if_pos z, if_pos (by rw [z])]
  ·rw [if_neg z, if_neg (fun y => z (kP_inj y))]
 ·unfold pvK
  rw [List.map_append]; rfl
theorem DRs.get {l : List (PyData × V)} {kvs : List (PyData × D)} (h : DRs K as H l kvs) (k : PyData) : (∀ d, dGet kvs k = some d -> ∃ v, valV l k = some v /\ RD K as H v d) /\ (dGet kvs k = none -> valV l k = none) := by
 induction h with
 | nil => exact ⟨fun d e => by simp [dGet] at e, fun _ => rfl⟩
 | @cons k' v d l kvs r t ih =>
  by_cases e : k' = k
  ·subst e
   refine ⟨fun d' e' => ?_, fun e' => ?_⟩
   ·simp [dGet, List.find?_cons] at e'
    subst e'
    exact ⟨v, valV_pos rfl, r⟩
   ·simp [dGet, List.find?_cons] at e'
  ·have e1 : dGet ((k', d) :: kvs) k = dGet kvs k := by simp [dGet, List.find?_cons, e]
   rw [e1, valV_neg e]
   exact ih
theorem DRs.any {l : List (PyData × V)} {kvs : List (PyData × D)} (h : DRs K as H l kvs) (k : PyData) : (l.any fun e => decide (e.1 = k)) = kvs.any fun e => decide (e.1 = k) := by
 induction h with
 | nil => rfl
 | cons r t ih => rw [List.any_cons, List.any_cons, ih]
theorem DRs.put {l : List (PyData × V)} {kvs : List (PyData × D)} (h : DRs K as H l kvs) {v : V} {d : D} (r : RD K as H v d) (k : PyData) : DRs K as H (putK l k v) (dPut kvs k d) := by
 unfold putK dPut
 rw [h.any k]
 split
 ·rename_i c
  clear c
  induction h with
  | nil => exact .nil
  | @cons k' v' d' l kvs r' t ih =>
   rw [List.map_cons, List.map_cons]
   by_cases e : k' = k
   ·rw [if_pos e, if_pos e]; exact .cons r ih
   ·rw [if_neg e, if_neg e]; exact .cons r' ih
 ·rename_i c
  clear c
  induction h with
  | nil => exact .cons r .nil
  | cons r' t ih => exact .cons r' ih
theorem DRs.len {l : List (PyData × V)} {kvs : List (PyData × D)} (h : DRs K as H l kvs) : l.length = kvs.length := by
 induction h with
 | nil => rfl
 | cons r t ih => simp [ih]
theorem pvK_len (l : List (Key × V)) : (pvK l).length = l.length := by simp [pvK]
noncomputable def onD {α : Type} (d : D) (s : S) (k : Nat -> List (PyData × D) -> R α) : R α := match d with
 | .ref n => match s[n]? with
  | some (.dct kvs) => k n kvs
  | _ => .bad
 | _ => .bad
theorem ref_dct {s : S} {p : Addr} {n : Nat} {kvs : List (PyData × D)} (rl : Rel K as H s) (hr : ∀ q, as.ix[n]? = some (some q) -> q = p) (e : s[n]? = some (.dct kvs)) : as.ix[n]? = some (some p) /\ RO K as H p (.dct kvs) := by
 obtain ⟨q, hq⟩ := rl.li n _ e (by intro z; cases z)
 cases hr q hq
 exact ⟨hq, rl.ob n p _ hq e⟩
theorem onD_ok {α β : Type} {rel : As -> Hp -> β -> α -> Prop} {s : S} {d : D} {v : V} {k : Nat -> List (PyData × D) -> R α} {Q : β -> Hp -> Prop} (rl : Rel K as H s) (r : RD K as H v d) (h : Dn K rel as H (onD d s k) Q) : ∃ p n kvs, v = .ref p /\ d = .ref n /\ as.ix[n]? = some (some p) /\ s[n]? = some (.dct kvs) /\ RO K as H p (.dct kvs) /\ Dn K rel as H (k n kvs) Q := by
 cases r with
 | @ref p n l hr =>
  have h : Dn K rel as H (match s[n]? with | some (O.dct kvs) => k n kvs | _ => .bad) Q := h
  split at h
  ·rename_i kvs e
   obtain ⟨h1, h2⟩ := ref_dct rl hr e
   exact ⟨p, n, kvs, rfl, rfl, h1, e, h2, h⟩
  ·exact h.elim
 | _ => exact h.elim
theorem ro_kind {p : Addr} {kvs : List (PyData × D)} {k : PyData} (h : RO K as H p (.dct kvs)) (hs : kSame kvs k = true) : (∃ (l : List (Key × V)) (a : Key), k = kP a /\ H p = some (.dK l) /\ DRs K as H (pvK l) kvs) \/ ∃ l : List (PyData × V), isT k = true /\ DD H p l /\ DRs K as H l kvs := by
 unfold kSame at hs
 rw [Bool.or_eq_true, Bool.and_eq_true, Bool.and_eq_true] at hs
 rcases h with ⟨l, e, r⟩ | ⟨l, e0, e, r⟩
 ·rcases hs with ⟨h1, h2⟩ | ⟨h1, h2⟩
  ·obtain ⟨a, rfl⟩ := isK_kP h1
   exact .inl ⟨l, a, rfl, e, r⟩
  ·cases l with
   | nil => cases r; exact .inr ⟨[], h1, .inr ⟨e, rfl⟩, .nil⟩
   | cons q l =>
    obtain ⟨q1, q2⟩ := q
    exfalso
    have r' : DRs K as H ((kP q1, q2) :: pvK l) kvs := r
    cases r' with
    | cons r1 r2 =>
     rw [List.all_cons, Bool.and_eq_true] at h2
     have := h2.1
     cases q1 <;> simp [kP, isT] at this
 ·rcases hs with ⟨h1, h2⟩ | ⟨h1, h2⟩
  ·exfalso
   cases l with
   | nil => exact e0.1 rfl
   | cons q l =>
    obtain ⟨q1, q2⟩ := q
    cases r with
    | cons r1 r2 =>
     have a1 := e0.2
     rw [List.all_cons, Bool.and_eq_true] at h2 a1
     have h2 := h2.1
     have a1 := a1.1
     cases q1 <;> simp [isK, isT] at h2 a1
  ·exact .inr ⟨l, h1, .inl e, r⟩
end
end PF
namespace PF
open PySem PySem.Spec
open L2
open PyProof.Rows (subscriptTail subscriptTail_builtinR)
section
variable {X : Cx} {K : PySem.W.Frag} {as : As} {H : Hp}
theorem td_vals {pins : List (Addr × Obj)} {σ : St} {sh : Shared} {s : S} {p : Addr} {kvs : List (PyData × D)} (I : Inv X pins σ H sh) (rl : Rel X.K as H s) (h : RO X.K as H p (.dct kvs)) :
  ∃ (es : Array DictEntry) (ep : Nat) (xs ys : List V), RawD sh.heap p es ep /\ (p == sysModules) = false /\ es.size = kvs.length /\ kvs.length <= sizeLine /\ Vals xs (es.toList.map (·.key)) /\ TDs as H xs (kvs.map (·.1)) /\ Vals ys (es.toList.map (·.val)) /\ RDs X.K as H ys (kvs.map (·.2)) := by
 rcases h with ⟨l, e, r⟩ | ⟨l, e0, e, r⟩
 ·obtain ⟨z, hd, vs, rel, o, es, ep, h1, h2, h3, h4, h5, h6⟩ := dk_of I.hok e
  have all : ∀ {l : List (Key × V)} {vs : List (Key × Value)} {es : List DictEntry} {kvs : List (PyData × D)}, KV l vs -> PySem.Pairs (mixKind X.prog X.w) es vs -> DRs X.K as H (pvK l) kvs -> ∃ xs ys, es.length = kvs.length /\ Vals xs (es.map (·.key)) /\ TDs as H xs (kvs.map (·.1)) /\ Vals ys (es.map (·.val)) /\ RDs X.K as H ys (kvs.map (·.2)) := by
   intro l vs es kvs q
   induction q generalizing es kvs with
   | nil => intro q1 q2; cases q1; cases q2; exact ⟨[], [], rfl, .nil, .nil, .nil, .nil⟩
   | @cons a b _ _ hq t ih =>
    intro q1 q2
    obtain ⟨a1, a2⟩ := a
    obtain ⟨b1, b2⟩ := b
    obtain ⟨hq1, hq2⟩ := hq
    simp only at hq1 hq2
    subst hq1
    cases q1 with
    | cons k1 k2 k3 =>
     have q2' : DRs X.K as H ((kP a1, a2) :: pvK _) kvs := q2
     cases q2' with
     | cons r1 r2 =>
      obtain ⟨xs, ys, i0, i1, i2, i3, i4⟩ := ih k3 r2
      subst k2
      rcases keyIs_shape (show keyIs a1 _ = true from k1) with ⟨j, t', e3, e4⟩ | ⟨y', t', e3, e4⟩
      ·subst e3
       exact ⟨.int j :: xs, a2 :: ys, by simp [i0], .cons ⟨t', e4⟩ i1, .cons (.int j) i2, .cons hq2 i3, .cons r1 i4⟩
      ·subst e3
       exact ⟨.str y' :: xs, a2 :: ys, by simp [i0], .cons ⟨t', e4⟩ i1, .cons (.str y') i2, .cons hq2 i3, .cons r1 i4⟩
  obtain ⟨xs, ys, i0, i1, i2, i3, i4⟩ := all rel h5 r
  refine ⟨es, ep, xs, ys, ⟨o, h1, h2, h3⟩, hd, by rw [← Array.length_toList]; exact i0, by rw [← r.len, pvK_len]; exact z, i1, i2, i3, i4⟩
 ·obtain ⟨z, hd, zs, rel, o, es, ep, h1, h2, h3, h4, h5, h6⟩ := dd_of I.hok e
  have all : ∀ {l : List (PyData × V)} {zs : List (PyData × Addr × Value)} {kvs : List (PyData × D)}, KE H l zs -> DRs X.K as H l kvs -> ∃ xs ys, zs.length = kvs.length /\ Vals xs ((zs.map (entryOfKey (dataKind X.prog X.w))).map (·.key)) /\ TDs as H xs (kvs.map (·.1)) /\ Vals ys ((zs.map (entryOfKey (dataKind X.prog X.w))).map (·.val)) /\ RDs X.K as H ys (kvs.map (·.2)) := by
   intro l zs kvs q
   induction q generalizing kvs with
   | nil => intro q2; cases q2; exact ⟨[], [], rfl, .nil, .nil, .nil, .nil⟩
   | @cons a b _ _ hq t ih =>
    intro q2
    obtain ⟨a1, a2⟩ := a
    obtain ⟨b1, b2, b3⟩ := b
    obtain ⟨hq1, hq2, hq3⟩ := hq
    simp only at hq1 hq2 hq3
    subst hq1
    cases q2 with
    | cons r1 r2 =>
     obtain ⟨xs, ys, i0, i1, i2, i3, i4⟩ := ih r2
     exact ⟨.ref b2 :: xs, a2 :: ys, by simp [i0], .cons rfl i1, .cons (PF.KD.td rl hq2.2) i2, .cons hq3 i3, .cons r1 i4⟩
  obtain ⟨xs, ys, i0, i1, i2, i3, i4⟩ := all rel r
  rw [← h4] at i1 i3
  refine ⟨es, ep, xs, ys, ⟨o, h1, h2, h3⟩, hd, ?_, by rw [← r.len]; exact z, i1, i2, i3, i4⟩
  rw [← Array.length_toList, h4, List.length_map]; exact i0
theorem RD.key_inv {v : V} {d : D} {k : PyData} (r : RD K as H v d) (h : keyD d = some k) : TD as H v k := by
 cases r with
 | da t => cases h; exact t
 | _ => cases h
theorem kP_rel {v : V} {u : Value} {a : Key} (t : TD as H v (kP a)) (r : RelV v u) : RelV (kV a) u := by
 cases a with
 | inl i => cases t; exact r
 | inr x => cases t; exact r
theorem kP_v {v : V} {a : Key} (t : TD as H v (kP a)) : v = kV a := by
 cases a with
 | inl i => cases t; rfl
 | inr x => cases t; rfl
theorem isT_key {k : PyData} (h : isT k = true) : keyOk k = true /\ plD k = true /\ ∃ xs, k = .tuple xs := by
 cases k with
 | tuple xs => exact ⟨h, (keyOk_iff.mp (show keyOk (.tuple xs) = true from h)).1, xs, rfl⟩
 | _ => cases h
theorem td_ref {v : V} {xs : List PyData} (t : TD as H v (.tuple xs)) : ∃ b, v = .ref b := by cases t with | tup n e r => exact ⟨_, rfl⟩
structure Ix2 (X : Cx) (g : D -> D -> S -> R D) : Prop where
 ex : ∃ r, IxR X r /\ Ref2 X.K r g
theorem re_ix2 {a b : Expr} {fa fb : FE} {pos : Pos} {g : D -> D -> S -> R D} (o : Ix2 X g) (ha : RE X a fa) (hb : RE X b fb) (hs : PlainIx b := by exact fun _ _ => rfl) : RE X (.Subscript a b pos) (fOp g fa fb) := by
 obtain ⟨r, h1, h2⟩ := o.ex
 obtain ⟨ta, pa, ra⟩ := ha.ex
 obtain ⟨tb, pb, rb⟩ := hb.ex
 exact ⟨_, pe_ix h1 pa pb hs, ref_op h2 ra rb⟩
end
end PF
namespace PF
open PySem PySem.Spec
open L2
section
variable {X : Cx} {K : PySem.W.Frag} {as : As} {H : Hp}
noncomputable def fMd (g : GM) (fo : FE) (fa : FA) : FE := fun ρ s => (fo ρ s).bind fun d s1 => onD d s1 fun _ _ => (fa ρ s1).bind fun ds s2 => g d ds s2
theorem raw_type {pins : List (Addr × Obj)} {σ : St} {sh : Shared} {s : S} {p : Addr} {kvs : List (PyData × D)} (I : Inv X pins σ H sh) (rl : Rel X.K as H s) (h : RO X.K as H p (.dct kvs)) : sh.TypeIs (.ref p) "dict" /\ ∀ a, Value.ref p = .ref a -> ∃ ob, sh.heap.get? a = some ob /\ ob.dict = none := by
 obtain ⟨es, ep, _, _, raw, _⟩ := td_vals I rl h
 refine ⟨raw.typeIs, fun a e => ?_⟩
 cases e
 obtain ⟨o, ho, hc, _⟩ := raw
 exact ⟨o, ho, hc.2.1⟩
theorem re_md {o e : Expr} {es : List Expr} {fo : FE} {fa : FA} {name : Str} {id : String} {g : GM} {apos cpos : Pos} (slot : Slot "dict" name id) (hty : typeOf (.builtin id) = pure (.type "method_descriptor")) (hm : MB X id g) (ho : RE X o fo) (ha : RA X (e :: es) fa)
  (hbase : attributeBase o name X.env (eval o X.env) = eval o X.env := by rfl)
  (hfew : ((backTo cpos (starEach (e :: es) X.env)).all (fun x => !x.1) && (backToKw cpos (keywordEach [] X.env)).all (fun x => x.1.isSome)
   && decide ((e :: es).length + ([] : List Keyword).length + (if ([] : List Keyword).isEmpty then 0 else 1) < 30)) = true := by rfl)
  (hline : (apos.endLine == cpos.line) = true := by rfl) (hs : starEach (e :: es) X.env = (false, eval e X.env) :: starEach es X.env := by rfl) (hplain : (backTo cpos (starEach es X.env)).any (·.1) = false := by rfl) :
  RE X (.Call (.Attribute o name apos) (e :: es) [] cpos) (fMd g fo fa) := by
 obtain ⟨r, hr, hg⟩ := hm.ex
 obtain ⟨to, po, ro⟩ := ho.ex
 obtain ⟨ta, pa, ra⟩ := ha.ex
 refine ⟨fun σ H Q => to σ H fun x H1 => ∃ as s p kvs, x = .ref p /\ Rel X.K as H1 s /\ RO X.K as H1 p (.dct kvs) /\ ta σ H1 fun vs H2 => r x vs H2 Q, ⟨fun pins s σ H Q I h => ?_⟩, fun as σ H ρ s Q rl en h => ?_⟩
 ·refine wpAny_Call_method_late hbase hfew hline rfl (thn (po pins s σ H _ I h) fun v s1 ⟨x, H1, I1, r1, as, s', p, kvs, ex, rl, rro, q1⟩ => ?_)
  subst ex
  cases r1
  obtain ⟨h1, h2⟩ := raw_type I1 rl rro
  refine ⟨"dict", id, PySem.F.plainAttrs_dict, slot, hty, h1, h2, ?_⟩
  have hA := pa cpos pins s1 σ H1 _ I1 q1
  rw [hs] at hA ⊢
  refine Calls.callWith_builtin (by show (false || (backTo cpos (starEach es X.env)).any (·.1)) = false; rw [hplain] <;> rfl) (Calls.evalArgs_plain ?_)
  exact thn hA fun us s2 ⟨vs, H2, I2, r2, q2⟩ => hr pins s2 σ H2 (.ref p) vs (.ref p) us Q I2 rfl r2 q2
 ·refine ro as σ H ρ s _ rl en (Dn.bind h fun d s1 as1 H1 v st1 rl1 r1 h1 => ?_)
  obtain ⟨p, n, kvs, rfl, rfl, hx, e, rro, h1⟩ := onD_ok rl1 r1 h1
  refine ⟨as1, s1, p, kvs, rfl, rl1, rro, ra as1 σ H1 ρ s1 _ rl1 (en.mono st1) (Dn.bind h1 fun ds s2 as2 H2 vs st2 rl2 r2 h2 => ?_)⟩
  exact hg as2 H2 s2 (.ref p) vs (.ref n) ds Q rl2 (r1.mono st2) r2 h2
noncomputable def gDget : GM := fun d ds s => match ds with
 | [kd] => onD d s fun n kvs => match keyD kd with
  | some k => if kSame kvs k = true then .ok ((dGet kvs k).getD .non) s else .bad
  | none => .bad
 | [kd, x] => onD d s fun n kvs => match keyD kd with
  | some k => if kSame kvs k = true then .ok ((dGet kvs k).getD x) s else .bad
  | none => .bad
 | _ => .bad
theorem DRs.getD {l : List (PyData × V)} {kvs : List (PyData × D)} (h : DRs K as H l kvs) (k : PyData) {v : V} {d : D} (r : RD K as H v d) : RD K as H ((valV l k).getD v) ((dGet kvs k).getD d) := by
 cases e : dGet kvs k with
 | none => rw [(h.get k).2 e]; exact r
 | some x => obtain ⟨w, ew, rw'⟩ := (h.get k).1 x e; rw [ew]; exact rw'
theorem m_dget (hu : X.A.units + 70 < cLine) : MB X "dict.get" gDget := by
 refine ⟨fun x xs H Q => ∃ as s d ds, Rel X.K as H s /\ RD X.K as H x d /\ RDs X.K as H xs ds /\ Dn X.K (rD X.K) as H (gDget d ds s) Q, fun pins sh σ H x xs v us Q I rx rs ⟨as, s, d, ds, rl, r1, r2, h⟩ => ?_, fun as H s x xs d ds Q rl r1 r2 h => ⟨as, s, d, ds, rl, r1, r2, h⟩⟩
 unfold gDget at h
 split at h
 ·rename_i kd
  obtain ⟨y, rfl, ry⟩ := r2.one
  obtain ⟨u, rfl, ru⟩ := vals1 rs
  obtain ⟨p, n, kvs, rfl, rfl, ha, e, ro, h⟩ := onD_ok rl r1 h
  cases rx
  split at h
  ·rename_i k hk
   split at h
   ·rename_i hsm
    have ty := ry.key_inv hk
    rcases ro_kind ro hsm with ⟨l, a, rfl, eh, dr⟩ | ⟨l, it, dd, dr⟩
    ·refine d_get1 (by omega) I (DGet.k (k := a) eh) (kP_rel ty ru) fun w' s' I' rw' => ⟨_, H, I', rw', ?_⟩
     have := dr.getD (kP a) (v := .non) (d := .non) (.da .non)
     rw [val_pv] at this
     exact Dn.now (Q := Q) h rl this
    ·obtain ⟨kok, kpl, ks, rfl⟩ := isT_key it
     obtain ⟨b, rfl⟩ := td_ref ty
     cases ru
     exact dd_get1 (by omega) I dd kok (TD.kd ty kpl) fun w' s' I' rw' => ⟨_, H, I', rw', Dn.now (Q := Q) h rl (dr.getD _ (v := .non) (d := .non) (.da .non))⟩
   ·exact h.elim
  ·exact h.elim
 ·rename_i kd xd
  obtain ⟨y, z, rfl, ry, rz⟩ := r2.two
  obtain ⟨u, u2, rfl, ru, ru2⟩ := rs.two
  obtain ⟨p, n, kvs, rfl, rfl, ha, e, ro, h⟩ := onD_ok rl r1 h
  cases rx
  split at h
  ·rename_i k hk
   split at h
   ·rename_i hsm
    have ty := ry.key_inv hk
    rcases ro_kind ro hsm with ⟨l, a, rfl, eh, dr⟩ | ⟨l, it, dd, dr⟩
    ·refine d_get2 (by omega) I (DGet.k (k := a) eh) (kP_rel ty ru) ru2 fun w' s' I' rw' => ⟨_, H, I', rw', ?_⟩
     have := dr.getD (kP a) rz
     rw [val_pv] at this
     exact Dn.now (Q := Q) h rl this
    ·obtain ⟨kok, kpl, ks, rfl⟩ := isT_key it
     obtain ⟨b, rfl⟩ := td_ref ty
     cases ru
     exact dd_get2 (by omega) I dd kok (TD.kd ty kpl) ru2 fun w' s' I' rw' => ⟨_, H, I', rw', Dn.now (Q := Q) h rl (dr.getD _ rz)⟩
   ·exact h.elim
  ·exact h.elim
 ·exact h.elim
end
end PF
namespace L2
open PySem PySem.Spec PyProof.Rows
noncomputable abbrev TBd := Addr -> St -> Hp -> (St -> Hp -> Prop) -> Prop
end L2
namespace L2
open PySem PySem.Spec PyProof.Rows
noncomputable def srcAt (b : Bool) (h : Heap) (l : Addr) (xs : Array Value) : Prop := if b = true then h.IsList l xs else h.IsTuple l xs
noncomputable def curAt (b : Bool) (h : Heap) (i l : Addr) (k : Nat) : Prop := if b = true then h.IsListIter i l k else h.IsTupleIter i l k
theorem srcAt.to {b : Bool} {h h' : Heap} {l : Addr} {xs : Array Value} (x : srcAt b h l xs) (k : ∀ o, h.get? l = some o -> h'.get? l = some o) : srcAt b h' l xs := by
 cases b with
 | true => obtain ⟨o, e, r⟩ := x; exact ⟨o, k o e, r⟩
 | false => obtain ⟨o, e, r⟩ := x; exact ⟨o, k o e, r⟩
theorem curAt.to {b : Bool} {h h' : Heap} {i l : Addr} {n : Nat} (x : curAt b h i l n) (k : ∀ o, h.get? i = some o -> h'.get? i = some o) : curAt b h' i l n := by
 cases b with
 | true => obtain ⟨o, e, r⟩ := x; exact ⟨o, k o e, r⟩
 | false => obtain ⟨o, e, r⟩ := x; exact ⟨o, k o e, r⟩
theorem curAt.obj {b : Bool} {h : Heap} {i l : Addr} {n : Nat} (x : curAt b h i l n) : ∃ o, h.get? i = some o /\ ∃ vs, o.data = .fields vs := by
 cases b with
 | true => obtain ⟨o, e, _, r⟩ := x; exact ⟨o, e, _, r⟩
 | false => obtain ⟨o, e, _, r⟩ := x; exact ⟨o, e, _, r⟩
theorem srcAt.lt {b : Bool} {h : Heap} {l : Addr} {xs : Array Value} (x : srcAt b h l xs) : l < h.objs.size := by
 cases b with
 | true => obtain ⟨o, e, r⟩ := x; exact Heap.lt_size e
 | false => obtain ⟨o, e, r⟩ := x; exact Heap.lt_size e
section
variable {P : Program} {w : World} {A : Around} {E : Value -> Shared -> Prop} {s : Shared}
open PySem.F in
theorem nextOf_item {b : Bool} {i l : Addr} {k : Nat} {xs : Array Value} {x : Value} {Q : Value -> Shared -> Prop} (hi : curAt b s.heap i l k) (hl : srcAt b s.heap l xs) (hx : xs[k]? = some x)
  (hQ : ∀ h', curAt b h' i l (k + 1) -> Heap.SameBut i s.heap h' -> Q x { s with heap := h' }) : wpAny (model P w) A (Builtin.SmallTypes.nextOf (.ref i)) Q E s := by
 cases b with
 | true => exact wpAny_nextOf_list_item hi hl hx hQ
 | false =>
  have hi : s.heap.IsTupleIter i l k := hi
  have hl : s.heap.IsTuple l xs := hl
  obtain ⟨o, ho, hc, hd⟩ := id hi
  (obtain ⟨ol, hol, _, nl, hdl⟩ := hl)
  refine wpAny_bind (wpAny_callSpecial?_slot (name := Str.ofString "__next__") hi.typeIs slot_tuple_iterator_next (wpAny_call_entry slot_tuple_iterator_next hi.typeIs entry_tuple_iterator_next ?_ (args_tuple_iterator_next_1 _)))
  wp_walk using wpAny_field ho hd (x := .ref l) rfl, wpAny_field ho hd (x := .int k 0) rfl, wpAny_seqItems hol hdl
  (simp only [Int.toNat_natCast, hx])
  refine wpAny_bind (wpAny_setField ho hd (by simp) (wpAny_pure ⟨_, rfl, wpAny_pure (hQ _ ?_ (.update ..))⟩))
  exact ⟨_, Heap.get?_update_self _ ho (Obj.isFreed_of_fields (Obj.data_mapFields hd _)), by rw [Obj.cls_mapFields]; exact hc, by rw [Obj.data_mapFields hd]; simp [rawInt]⟩
open PySem.F in
theorem nextOf_end {b : Bool} {i l : Addr} {k : Nat} {xs : Array Value} {Q : Value -> Shared -> Prop} (hh : A.handled = none) (hi : curAt b s.heap i l k) (hl : srcAt b s.heap l xs) (hx : xs[k]? = none)
  (hE : ∀ h' e, Heap.ExtBut i s.heap h' -> (∃ o, h'.get? e = some o /\ o.cls = .type "StopIteration") -> E (.ref e) { s with heap := h' }) : wpAny (model P w) A (Builtin.SmallTypes.nextOf (.ref i)) Q E s := by
 cases b with
 | true => exact wpAny_nextOf_list_end hh hi hl hx hE
 | false =>
  have hi : s.heap.IsTupleIter i l k := hi
  have hl : s.heap.IsTuple l xs := hl
  obtain ⟨o, ho, hc, hd⟩ := id hi
  (obtain ⟨ol, hol, _, nl, hdl⟩ := hl)
  refine wpAny_bind (wpAny_callSpecial?_slot (name := Str.ofString "__next__") hi.typeIs slot_tuple_iterator_next (wpAny_call_entry slot_tuple_iterator_next hi.typeIs entry_tuple_iterator_next ?_ (args_tuple_iterator_next_1 _)))
  (have hh1 : A.in1.handled = none := hh)
  wp_walk using wpAny_field ho hd (x := .ref l) rfl, wpAny_field ho hd (x := .int k 0) rfl, wpAny_seqItems hol hdl
  (simp only [Int.toNat_natCast, hx])
  (refine wpAny_bind (wpAny_rule (wpAny_bind (wpAny_setField ho hd (by simp) ?_))))
  wp_walk
  simp only [raiseNew]
  (refine wpAny_bind (wpAny_handled ?_))
  rw [hh1]
  refine wpAny_bind (wpAny_pure (wpAny_throw (hE _ _ (((Heap.SameBut.update ..).extBut.push _).push _) ?_)))
  exact ⟨_, Heap.get?_push_size _ rfl, rfl⟩
end
end L2
namespace L2
open PySem PySem.Spec PyProof.Rows
section
variable {P : Program} {w : World} {A : Around} {E : Value -> Shared -> Prop} {s : Shared}
structure ZAt (b1 b2 : Bool) (l1 l2 z TI TO i1 i2 : Addr) (f0 : Value) (k1 k2 : Nat) (h : Heap) : Prop where
 ap : ZipApart z TI TO i1 i2 l1 l2
 oz : IsZip h z TI TO f0
 oi : IsPair h TI (.ref i1) (.ref i2)
 oo : ∃ a b, IsPair h TO a b
 c1 : curAt b1 h i1 l1 k1
 c2 : curAt b2 h i2 l2 k2
theorem zip_it {b1 b2 : Bool} {z TI TO i1 i2 l1 l2 : Addr} {k1 k2 : Nat} {xs ys : Array Value} {x y : Value} {Q : Value -> Shared -> Prop} (Z : ZAt b1 b2 l1 l2 z TI TO i1 i2 .none k1 k2 s.heap)
  (hl1 : srcAt b1 s.heap l1 xs) (hl2 : srcAt b2 s.heap l2 ys) (hx : xs[k1]? = some x) (hy : ys[k2]? = some y)
  (hQ : ∀ h', ZAt b1 b2 l1 l2 z TI TO i1 i2 (rawInt s.heap.objs.size) (k1 + 1) (k2 + 1) h' -> IsPair h' s.heap.objs.size x y ->
   (∀ c o, c ≠ z -> c ≠ TO -> c ≠ i1 -> c ≠ i2 -> s.heap.get? c = some o -> h'.get? c = some o) -> Q (.ref s.heap.objs.size) { s with heap := h' }) :
  wpAny (model P w) A (Builtin.«zip.__next__» ⟨[.ref z], []⟩) (fun fin s' => ∃ v, fin = .done (.ret v) /\ Q v s') E s := by
 obtain ⟨ap, oz, oi, ⟨a, b, oo⟩, c1, c2⟩ := Z
 (show wpAny _ _ (field (.ref z) 2 >>= _) _ _ _); refine wpAny_bind (wpAny_field oz rfl (x := .bool false) rfl ?_)
 (show wpAny _ _ (field (.ref z) 3 >>= _) _ _ _); refine wpAny_bind (wpAny_field oz rfl (x := .ref TI) rfl (wpAny_bind (wpAny_seqItems oi rfl ?_)))
 (show wpAny _ _ (Builtin.SmallTypes.ownedTupleIsFree (.ref z) >>= _) _ _ _); refine wpAny_bind (wpAny_bind (wpAny_field oz rfl (x := .none) rfl (wpAny_pure ?_)))
 simp only [if_true]
 refine wpAny_bind (wpAny_rule (wpAny_bind (wpAny_field oz rfl (x := .ref TO) rfl (wpAny_bind (wpAny_setField_rec oz (by simp) fun g1 z1 e1 => wpAny_bind ?_)))))
 have z1 : IsZip g1 z TI TO .ellipsis := z1
 (simp only [List.zipIdx_cons, List.zipIdx_nil, List.forIn_cons, List.forIn_nil])
 (refine wpAny_bind (wpAny_bind (wpAny_onRaise ?_)))
 (show wpAny _ _ (Builtin.SmallTypes.nextOf (.ref i1) >>= _) _ _ _); refine wpAny_bind (nextOf_item (c1.to fun o => e1.extBut _ _ ap.i1z) (hl1.to fun o => e1.extBut _ _ ap.l1z) hx fun g2 c1' e2 => wpAny_pure ?_)
 have o2 : IsPair g2 TO a b := e2.extBut _ _ ap.TOi1 (e1.extBut _ _ ap.TOz oo)
 refine wpAny_bind (wpAny_seqItems o2 rfl (wpAny_bind (wpAny_updateSeq_pair o2 fun g3 o3 e3 => wpAny_bind (wpAny_letGo (wpAny_pure (wpAny_bind (wpAny_bind (wpAny_onRaise ?_))))))))
 have o3 : IsPair g3 TO x b := o3
 have k3 : ∀ c o, c ≠ z -> c ≠ i1 -> c ≠ TO -> s.heap.get? c = some o -> g3.get? c = some o := fun c o a1 a2 a3 e => e3.extBut _ _ a3 (e2.extBut _ _ a2 (e1.extBut _ _ a1 e))
 (show wpAny _ _ (Builtin.SmallTypes.nextOf (.ref i2) >>= _) _ _ _); refine wpAny_bind (nextOf_item (c2.to fun o => k3 _ o ap.i2z ap.i12.symm ap.TOi2.symm) (hl2.to fun o => k3 _ o ap.l2z ap.l2i1 ap.l2TO) hy fun g4 c2' e4 => wpAny_pure ?_)
 have o4 : IsPair g4 TO x b := e4.extBut _ _ ap.TOi2 o3
 refine wpAny_bind (wpAny_seqItems o4 rfl (wpAny_bind (wpAny_updateSeq_pair o4 fun g5 o5 e5 => wpAny_bind (wpAny_letGo (wpAny_pure (wpAny_pure ?_))))))
 have o5 : IsPair g5 TO x y := o5
 refine wpAny_bind (wpAny_seqItems o5 rfl (wpAny_bind (wpAny_newTuple ?_)))
 have sz : g5.objs.size = s.heap.objs.size := by rw [e5.1, e4.1, e3.1, e2.1, e1.1]
 have z5 : IsZip g5 z TI TO .ellipsis := e5.extBut _ _ ap.TOz.symm (e4.extBut _ _ ap.i2z.symm (e3.extBut _ _ ap.TOz.symm (e2.extBut _ _ ap.i1z.symm z1)))
 have k5 : ∀ c o, c ≠ z -> c ≠ TO -> c ≠ i1 -> c ≠ i2 -> s.heap.get? c = some o -> g5.get? c = some o := fun c o a1 a2 a3 a4 e => e5.extBut _ _ a2 (e4.extBut _ _ a4 (k3 c o a1 a3 a2 e))
 have c15 : curAt b1 g5 i1 l1 (k1 + 1) := c1'.to fun o e => e5.extBut _ _ ap.TOi1.symm (e4.extBut _ _ ap.i12 (e3.extBut _ _ ap.TOi1.symm e))
 have c25 : curAt b2 g5 i2 l2 (k2 + 1) := c2'.to fun o e => e5.extBut _ _ ap.TOi2.symm e
 (show wpAny _ _ (Builtin.SmallTypes.ownedTupleHandOut (.ref z) (.ref g5.objs.size) >>= _) _ _ _); refine wpAny_bind ?_
 have z6 : IsZip (g5.push { cls := .type "tuple", data := .seq #[x, y] }) z TI TO .ellipsis := Heap.get?_push_of_some _ z5
 refine wpAny_bind (wpAny_setField_rec z6 (by simp) fun g7 z7 e7 => ?_)
 have z7 : IsZip g7 z TI TO (rawInt g5.objs.size) := z7
 refine wpAny_setField_rec z7 (by simp) fun g8 z8 e8 => ?_
 have z8 : IsZip g8 z TI TO (rawInt g5.objs.size) := z8
 have up : ∀ c o, c ≠ z -> g5.get? c = some o -> g8.get? c = some o := fun c o a1 e => e8.extBut _ _ a1 (e7.extBut _ _ a1 (Heap.get?_push_of_some _ e))
 have nz : g5.objs.size ≠ z := Nat.ne_of_gt (Heap.lt_size z5)
 have t8 : IsPair g8 g5.objs.size x y := e8.extBut _ _ nz (e7.extBut _ _ nz (Heap.get?_push_size _ rfl))
 rw [sz] at z8 t8
 (refine wpAny_pure ⟨_, rfl, ?_⟩)
 show Q (.ref g5.objs.size) _
 rw [sz]
 exact hQ g8 ⟨ap, z8, up _ _ ap.TIz (k5 _ _ ap.TIz ap.TITO ap.TIi1 ap.TIi2 oi), ⟨_, _, up _ _ ap.TOz o5⟩, c15.to fun o => up _ o ap.i1z, c25.to fun o => up _ o ap.i2z⟩ t8 fun c o a1 a2 a3 a4 e => up c o a1 (k5 c o a1 a2 a3 a4 e)
theorem zip_fin {b1 b2 : Bool} {z TI TO i1 i2 l1 l2 : Addr} {k1 k2 : Nat} {xs ys : Array Value} {Q : Fin -> Shared -> Prop} (hh : A.handled = none) (Z : ZAt b1 b2 l1 l2 z TI TO i1 i2 .none k1 k2 s.heap)
  (hl1 : srcAt b1 s.heap l1 xs) (hl2 : srcAt b2 s.heap l2 ys) (hend : xs[k1]? = none \/ ys[k2]? = none)
  (hE : ∀ h' e, (∀ c o, c ≠ z -> c ≠ TO -> c ≠ i1 -> c ≠ i2 -> s.heap.get? c = some o -> h'.get? c = some o) -> (∃ o, h'.get? e = some o /\ o.cls = .type "StopIteration") -> E (.ref e) { s with heap := h' }) :
  wpAny (model P w) A (Builtin.«zip.__next__» ⟨[.ref z], []⟩) Q E s := by
 obtain ⟨ap, oz, oi, ⟨a, b, oo⟩, c1, c2⟩ := Z
 (show wpAny _ _ (field (.ref z) 2 >>= _) _ _ _); refine wpAny_bind (wpAny_field oz rfl (x := .bool false) rfl ?_)
 (show wpAny _ _ (field (.ref z) 3 >>= _) _ _ _); refine wpAny_bind (wpAny_field oz rfl (x := .ref TI) rfl (wpAny_bind (wpAny_seqItems oi rfl ?_)))
 (show wpAny _ _ (Builtin.SmallTypes.ownedTupleIsFree (.ref z) >>= _) _ _ _); refine wpAny_bind (wpAny_bind (wpAny_field oz rfl (x := .none) rfl (wpAny_pure ?_)))
 simp only [if_true]
 refine wpAny_bind (wpAny_rule (wpAny_bind (wpAny_field oz rfl (x := .ref TO) rfl (wpAny_bind (wpAny_setField_rec oz (by simp) fun g1 z1 e1 => wpAny_bind ?_)))))
 have z1 : IsZip g1 z TI TO .ellipsis := z1
 have stop : ∀ (g : Heap) (o : Obj) (e : Addr), IsZip g z TI TO .ellipsis -> g.get? e = some o -> o.cls = .type "StopIteration" -> e ≠ z := fun g o e hz ho hc q => by
  subst q; rw [hz] at ho; cases ho; simp at hc
 (simp only [List.zipIdx_cons, List.zipIdx_nil, List.forIn_cons, List.forIn_nil])
 (refine wpAny_bind (wpAny_bind (wpAny_onRaise ?_)))
 (show wpAny _ _ (Builtin.SmallTypes.nextOf (.ref i1) >>= _) _ _ _); cases hx : xs[k1]? with
 | none =>
  refine wpAny_bind (nextOf_end hh (c1.to fun o => e1.extBut _ _ ap.i1z) (hl1.to fun o => e1.extBut _ _ ap.l1z) hx fun g2 e e2 ⟨oe, he, ce⟩ => ?_)
  have z2 : IsZip g2 z TI TO .ellipsis := e2 _ _ ap.i1z.symm z1
  exact wpAny_setField_rec z2 (by simp) fun g3 _ e3 => hE g3 e (fun c o a1 _ a3 _ q => e3.extBut _ _ a1 (e2 _ _ a3 (e1.extBut _ _ a1 q))) ⟨oe, e3.extBut _ _ (stop _ _ _ z2 he ce) he, ce⟩
 | some x =>
  have hy : ys[k2]? = none := hend.elim (fun h => by rw [hx] at h; cases h) id
  refine wpAny_bind (nextOf_item (c1.to fun o => e1.extBut _ _ ap.i1z) (hl1.to fun o => e1.extBut _ _ ap.l1z) hx fun g2 c1' e2 => wpAny_pure ?_)
  have o2 : IsPair g2 TO a b := e2.extBut _ _ ap.TOi1 (e1.extBut _ _ ap.TOz oo)
  refine wpAny_bind (wpAny_seqItems o2 rfl (wpAny_bind (wpAny_updateSeq_pair o2 fun g3 o3 e3 => wpAny_bind (wpAny_letGo (wpAny_pure (wpAny_bind (wpAny_bind (wpAny_onRaise ?_))))))))
  have k3 : ∀ c o, c ≠ z -> c ≠ i1 -> c ≠ TO -> s.heap.get? c = some o -> g3.get? c = some o := fun c o a1 a2 a3 e => e3.extBut _ _ a3 (e2.extBut _ _ a2 (e1.extBut _ _ a1 e))
  (show wpAny _ _ (Builtin.SmallTypes.nextOf (.ref i2) >>= _) _ _ _); refine wpAny_bind (nextOf_end hh (c2.to fun o => k3 _ o ap.i2z ap.i12.symm ap.TOi2.symm) (hl2.to fun o => k3 _ o ap.l2z ap.l2i1 ap.l2TO) hy fun g4 e e4 ⟨oe, he, ce⟩ => ?_)
  have z4 : IsZip g4 z TI TO .ellipsis := e4 _ _ ap.i2z.symm (e3.extBut _ _ ap.TOz.symm (e2.extBut _ _ ap.i1z.symm z1))
  exact wpAny_setField_rec z4 (by simp) fun g5 _ e5 => hE g5 e (fun c o a1 a2 a3 a4 q => e5.extBut _ _ a1 (e4 _ _ a4 (k3 c o a1 a3 a2 q))) ⟨oe, e5.extBut _ _ (stop _ _ _ z4 he ce) he, ce⟩
theorem next_it {b1 b2 : Bool} {z TI TO i1 i2 l1 l2 : Addr} {k1 k2 : Nat} {xs ys : Array Value} {x y : Value} {Q : Option Value -> Shared -> Prop} (Z : ZAt b1 b2 l1 l2 z TI TO i1 i2 .none k1 k2 s.heap)
  (hl1 : srcAt b1 s.heap l1 xs) (hl2 : srcAt b2 s.heap l2 ys) (hx : xs[k1]? = some x) (hy : ys[k2]? = some y)
  (hQ : ∀ h', ZAt b1 b2 l1 l2 z TI TO i1 i2 (rawInt s.heap.objs.size) (k1 + 1) (k2 + 1) h' -> IsPair h' s.heap.objs.size x y ->
   (∀ c o, c ≠ z -> c ≠ TO -> c ≠ i1 -> c ≠ i2 -> s.heap.get? c = some o -> h'.get? c = some o) -> Q (some (.ref s.heap.objs.size)) { s with heap := h' }) :
  wpAny (model P w) A (pyNext (.ref z)) Q E s :=
 have hT : s.TypeIs (.ref z) "zip" := ⟨_, Z.oz, rfl⟩
 wpAny_bind (wpAny_attempt (wpAny_callSpecial?_slot (name := Str.ofString "__next__") hT F.slot_zip_next (wpAny_call_entry F.slot_zip_next hT F.entry_zip_next (zip_it Z hl1 hl2 hx hy fun h' a1 a2 a3 => wpAny_pure (hQ h' a1 a2 a3)) (F.args_zip_next_1 _))))
theorem next_fin {b1 b2 : Bool} {z TI TO i1 i2 l1 l2 : Addr} {k1 k2 : Nat} {xs ys : Array Value} {Q : Option Value -> Shared -> Prop} (hh : A.handled = none) (Z : ZAt b1 b2 l1 l2 z TI TO i1 i2 .none k1 k2 s.heap)
  (hl1 : srcAt b1 s.heap l1 xs) (hl2 : srcAt b2 s.heap l2 ys) (hend : xs[k1]? = none \/ ys[k2]? = none)
  (hQ : ∀ h', (∀ c o, c ≠ z -> c ≠ TO -> c ≠ i1 -> c ≠ i2 -> s.heap.get? c = some o -> h'.get? c = some o) -> Q none { s with heap := h' }) : wpAny (model P w) A (pyNext (.ref z)) Q E s :=
 have hT : s.TypeIs (.ref z) "zip" := ⟨_, Z.oz, rfl⟩
 wpAny_bind (wpAny_attempt (wpAny_callSpecial?_slot (name := Str.ofString "__next__") hT F.slot_zip_next (wpAny_call_entry F.slot_zip_next hT F.entry_zip_next (zip_fin hh Z hl1 hl2 hend fun h' e hk ⟨o, ho, hc⟩ =>
  wpAny_bind (wpAny_isInstance (T := "StopIteration") (b := true) ⟨o, ho, hc⟩ isSubtype_stop (wpAny_pure (hQ _ hk)))) (F.args_zip_next_1 _))))
end
end L2
namespace L2
open PySem PySem.Spec PyProof.Rows
noncomputable def SqB (K : PySem.W.Frag) (b : Bool) (H : Hp) (l : Addr) (xs : List V) : Prop := if b = true then SqL K H l xs else SqT K H l xs
theorem Inv.seqB {X : Cx} {pins : List (Addr × Obj)} {σ : St} {H : Hp} {s : Shared} {b : Bool} {l : Addr} {xs : List V} (I : Inv X pins σ H s) (q : SqB X.K b H l xs) : ∃ its, Vals xs its /\ srcAt b s.heap l its.toArray := by
 cases b with
 | true => obtain ⟨its, rv, p, _⟩ := I.list q; exact ⟨its, rv, p.isList⟩
 | false => obtain ⟨its, rv, p, _⟩ := I.tuple q; exact ⟨its, rv, p⟩
noncomputable def Itzb (K : PySem.W.Frag) (b1 b2 : Bool) (l1 l2 : Addr) : It :=
 ⟨fun i H => ∃ xs ys x y, SqB K b1 H l1 xs /\ SqB K b2 H l2 ys /\ xs[i]? = some x /\ ys[i]? = some y,
   fun i H v H' => ∃ T, v = .ref T /\ ∀ xs ys, SqB K b1 H l1 xs -> SqB K b2 H l2 ys -> ∃ x y, xs[i]? = some x /\ ys[i]? = some y /\ New H T (.tup [x, y]) H',
   fun i H => ∃ xs ys, SqB K b1 H l1 xs /\ SqB K b2 H l2 ys /\ (xs.length <= i \/ ys.length <= i)⟩
theorem Inv.seqB_inj {X : Cx} {pins : List (Addr × Obj)} {σ : St} {H : Hp} {s : Shared} {b : Bool} {l : Addr} {xs ys : List V} (I : Inv X pins σ H s) (p : SqB X.K b H l xs) (q : SqB X.K b H l ys) : xs = ys := by
 cases b with
 | true => exact I.list_inj p q
 | false => exact I.tuple_inj p q
theorem turn_zipb {P : Program} {w : World} {K : PySem.W.Frag} {es : List Expr} {x1 : Nat} {pos : Pos} {b1 b2 : Bool} (l1 l2 z TI TO i1 i2 : Addr) : Turn P w K (.Tuple es x1 pos) (Itzb K b1 b2 l1 l2) [z, TI, TO, i1, i2] z (fun i h => ZAt b1 b2 l1 l2 z TI TO i1 i2 .none i i h) where
 mem := by simp
 obj := fun i h ⟨_, hz, hTI, ⟨a, c, hTO⟩, q1, q2⟩ b hb => by
  obtain ⟨o1, e1, v1, d1⟩ := q1.obj
  obtain ⟨o2, e2, v2, d2⟩ := q2.obj
  (simp only [List.mem_cons, List.not_mem_nil, or_false] at hb)
  rcases hb with rfl | rfl | rfl | rfl | rfl
  ·exact ⟨_, hz, fun v y => by cases y⟩
  ·exact ⟨_, hTI, fun v y => by cases y⟩
  ·exact ⟨_, hTO, fun v y => by cases y⟩
  ·exact ⟨_, e1, fun v y => by rw [d1] at y; cases y⟩
  ·exact ⟨_, e2, fun v y => by rw [d2] at y; cases y⟩
 keep := fun i h h' ⟨D, hz, hTI, ⟨a, c, hTO⟩, q1, q2⟩ k =>
  ⟨D, k z (by simp) _ hz, k TI (by simp) _ hTI, ⟨a, c, k TO (by simp) _ hTO⟩, q1.to fun o e => k i1 (by simp) o e, q2.to fun o e => k i2 (by simp) o e⟩
 item := by
  intro X hP hw hK hc i pins s σ H E I hf st hg
  subst hP hw hK
  obtain ⟨xs, ys, x, y, q1, q2, hx, hy⟩ := hg
  obtain ⟨its1, rv1, p1⟩ := I.seqB q1
  obtain ⟨its2, rv2, p2⟩ := I.seqB q2
  obtain ⟨u1, hu1, ru1⟩ := rv1.get hx
  obtain ⟨u2, hu2, ru2⟩ := rv2.get hy
  refine next_it st p1 p2 (x := u1) (y := u2) (by simpa using hu1) (by simpa using hu2) fun h' Z a5 k => ?_
  refine ⟨_, rfl, wpAny_letOwnedTupleGo_zip (s := { s with heap := h' }) Z.oz fun h2' hz' sb => ?_⟩
  have lt : ∀ b ∈ [z, TI, TO, i1, i2], b < s.heap.objs.size := fun b hb => by
   obtain ⟨_, hz, hTI, ⟨_, _, hTO⟩, q1, q2⟩ := st
   obtain ⟨o1, e1, _⟩ := q1.obj
   obtain ⟨o2, e2, _⟩ := q2.obj
   (simp only [List.mem_cons, List.not_mem_nil, or_false] at hb)
   rcases hb with rfl | rfl | rfl | rfl | rfl
   ·exact Heap.lt_size hz
   ·exact Heap.lt_size hTI
   ·exact Heap.lt_size hTO
   ·exact Heap.lt_size e1
   ·exact Heap.lt_size e2
  have I1 : Inv X pins σ (upd H s.heap.objs.size (.tup [x, y])) { s with heap := s.heap.push { cls := .type "tuple", data := .seq #[u1, u2] }, toks := s.toks } :=
   I.laid (fun b u e => Heap.get?_push_of_some _ e) (Nat.le_refl _) ⟨by show 2 <= sizeLine; decide, [u1, u2], .cons ru1 (.cons ru2 .nil), ⟨_, Heap.get?_push_size _ rfl⟩⟩
  have nT : ∀ b ∈ [z, TI, TO, i1, i2], upd H s.heap.objs.size (.tup [x, y]) b = none := fun b hb => by
   rw [upd_ne (Nat.ne_of_lt (lt b hb))]; exact (hf b hb).1
  have D := Z.ap
  have I2 := I1.turnedL (h' := h2') (t' := s.toks) (ch := [z, TI, TO, i1, i2]) (fun b o hb e => by
   have hbz : b ≠ z := fun y => hb (by simp [y])
   rw [sb.2 b hbz]
   by_cases hT : b = s.heap.objs.size
   ·subst hT
    rw [Heap.get?_push_size _ rfl] at e
    cases e
    exact a5
   ·rw [Heap.get?_push_ne _ _ _ hT] at e
    exact k b o hbz (fun y => hb (by simp [y])) (fun y => hb (by simp [y])) (fun y => hb (by simp [y])) e) fun b hb => ⟨nT b hb, (hf b hb).2⟩
  obtain ⟨_, _, oi, ⟨_, _, oo⟩, c1, c2⟩ := Z
  refine ⟨.ref s.heap.objs.size, _, I2, rfl, ⟨_, rfl, fun xs' ys' q1' q2' => ?_⟩, ⟨D, hz', sb.extBut _ _ D.TIz oi, ⟨_, _, sb.extBut _ _ D.TOz oo⟩, c1.to fun o => sb.extBut _ _ D.i1z, c2.to fun o => sb.extBut _ _ D.i2z⟩, nT⟩
  rw [I.seqB_inj q1' q1, I.seqB_inj q2' q2]
  exact ⟨x, y, hx, hy, I.fresh, rfl⟩
 done := by
  intro X hP hw hK hc i pins s σ H E I hf st hg
  subst hP hw hK
  obtain ⟨xs, ys, q1, q2, hx⟩ := hg
  obtain ⟨its1, rv1, p1⟩ := I.seqB q1
  obtain ⟨its2, rv2, p2⟩ := I.seqB q2
  have l1' := rv1.length
  have l2' := rv2.length
  refine next_fin (I.ok.hd hc) st p1 p2 ?_ fun h' k => ⟨rfl, I.turnedL (t' := s.toks) (ch := [z, TI, TO, i1, i2]) (fun b o hb e => k b o (fun y => hb (by simp [y])) (fun y => hb (by simp [y])) (fun y => hb (by simp [y])) (fun y => hb (by simp [y])) e) hf⟩
  rcases hx with hx | hx
  ·exact .inl (by simp; omega)
  ·exact .inr (by simp; omega)
 self := fun _ _ _ _ _ st h => wpAny_pyIter_zip st.oz h
noncomputable def itNm (b : Bool) : String := if b = true then "list_iterator" else "tuple_iterator"
section
variable {P : Program} {w : World} {A : Around} {E : Value -> Shared -> Prop} {s : Shared}
theorem iterB {b : Bool} {l : Addr} {xs : Array Value} {Q : Value -> Shared -> Prop} (h : srcAt b s.heap l xs) (hQ : Q (.ref s.heap.objs.size) { s with heap := s.heap.push { cls := .type (itNm b), data := .fields #[.ref l, .int 0 0] } }) : wpAny (model P w) A (pyIter (.ref l)) Q E s := by
 cases b with
 | true => exact wpAny_pyIter_list h hQ
 | false => exact wpAny_pyIter_tuple h hQ
theorem curB {b : Bool} {h : Heap} {i l : Addr} (e : h.get? i = some { cls := .type (itNm b), data := .fields #[.ref l, .int 0 0] }) : curAt b h i l 0 := by
 cases b with
 | true => exact ⟨_, e, rfl, rfl⟩
 | false => exact ⟨_, e, rfl, rfl⟩
noncomputable def zH (h : Heap) (b1 b2 : Bool) (l1 l2 : Addr) : Heap :=
 ((((h.push { cls := .type (itNm b1), data := .fields #[.ref l1, .int 0 0] }).push { cls := .type (itNm b2), data := .fields #[.ref l2, .int 0 0] }).push { cls := .type "tuple", data := .seq #[.ref h.objs.size, .ref (h.objs.size + 1)] }).push { cls := .type "tuple", data := .seq #[.none, .none] }).push
  { cls := .type "zip", data := .fields #[.none, .bool false, .bool false, .ref (h.objs.size + 2), .ref (h.objs.size + 3)] }
theorem meets_zipb (b1 b2 : Bool) (l1 l2 : Addr) (xs ys : Array Value) :
  Meets (Builtin.«zip.__new__» ⟨[.type "zip", .ref l1, .ref l2], []⟩) (fun _ R s => srcAt b1 s.heap l1 xs /\ srcAt b2 s.heap l2 ys /\ R (.ok (.ret (.ref (s.heap.objs.size + 4)))) { s with heap := zH s.heap b1 b2 l1 l2 }) :=
 .of_wp fun prog w A R s h => by
  obtain ⟨hp, g, d, tk, os⟩ := s; obtain ⟨h1, h2, h⟩ := h
  have hsub := sub_zip
  have L1 : srcAt b1 (Shared.heap ⟨hp, g, d, tk, os⟩) l1 xs := h1
  have L2 : srcAt b2 (Shared.heap ⟨hp.push { cls := .type (itNm b1), data := .fields #[.ref l1, .int 0 0] }, g, d, tk, os⟩) l2 ys := h2.to fun o => Heap.get?_push_of_some _
  wp_walk using iterB L1, iterB L2
  refine ⟨_, rfl, ?_⟩
  simp only [Heap.size_push]
  exact h
theorem call_zipb {b1 b2 : Bool} {l1 l2 : Addr} {xs ys : Array Value} {Q : Value -> Shared -> Prop} (h1 : srcAt b1 s.heap l1 xs) (h2 : srcAt b2 s.heap l2 ys)
  (h : ∀ h', ZAt b1 b2 l1 l2 (s.heap.objs.size + 4) (s.heap.objs.size + 2) (s.heap.objs.size + 3) s.heap.objs.size (s.heap.objs.size + 1) .none 0 0 h' -> (∀ c o, s.heap.get? c = some o -> h'.get? c = some o) -> Q (.ref (s.heap.objs.size + 4)) { s with heap := h' }) :
  wpAny (model P w) A (call (.type "zip") [.ref l1, .ref l2]) Q E s := by
 refine callType_new F.called_zip (by decide) (F.typeCall_zip_2 _ _) (F.newCall_zip_2 _ _) (fun obj => F.args_object_init_3 obj _ _) F.entry_zip_new (meets_zipb b1 b2 l1 l2 xs ys) ⟨h1, h2, ?_⟩
 have q1 := h1.lt
 have q2 := h2.lt
 have up : ∀ (g : Heap) (o : Obj) (n : Nat), n = g.objs.size -> o.isFreed = false -> (g.push o).get? n = some o := fun g o n e hf => by subst e; exact Heap.get?_push_size _ hf
 have sz : ∀ (g : Heap) (o : Obj) (n : Nat), g.objs.size = n -> (g.push o).objs.size = n + 1 := fun g o n e => by rw [Heap.size_push, e]
 have g5 : IsZip (zH s.heap b1 b2 l1 l2) (s.heap.objs.size + 4) (s.heap.objs.size + 2) (s.heap.objs.size + 3) .none := up _ _ _ (by simp only [Heap.size_push]) rfl
 have g4 : IsPair (zH s.heap b1 b2 l1 l2) (s.heap.objs.size + 3) .none .none := Heap.get?_push_of_some _ (up _ _ _ (by simp only [Heap.size_push]) rfl)
 have g3 : IsPair (zH s.heap b1 b2 l1 l2) (s.heap.objs.size + 2) (.ref s.heap.objs.size) (.ref (s.heap.objs.size + 1)) := Heap.get?_push_of_some _ (Heap.get?_push_of_some _ (up _ _ _ (by simp only [Heap.size_push]) rfl))
 have g2 : (zH s.heap b1 b2 l1 l2).get? (s.heap.objs.size + 1) = some { cls := .type (itNm b2), data := .fields #[.ref l2, .int 0 0] } := Heap.get?_push_of_some _ (Heap.get?_push_of_some _ (Heap.get?_push_of_some _ (up _ _ _ (by simp only [Heap.size_push]) rfl)))
 have g1 : (zH s.heap b1 b2 l1 l2).get? s.heap.objs.size = some { cls := .type (itNm b1), data := .fields #[.ref l1, .int 0 0] } := Heap.get?_push_of_some _ (Heap.get?_push_of_some _ (Heap.get?_push_of_some _ (Heap.get?_push_of_some _ (up _ _ _ rfl rfl))))
 refine ⟨⟨_, g5, rfl⟩, h _ ⟨?_, g5, g3, ⟨_, _, g4⟩, curB g1, curB g2⟩ fun c o x => Heap.get?_push_of_some _ (Heap.get?_push_of_some _ (Heap.get?_push_of_some _ (Heap.get?_push_of_some _ (Heap.get?_push_of_some _ x))))⟩
 constructor <;> (unfold Addr at *; omega)
end
noncomputable def iZipB (K : PySem.W.Frag) (ta : TA) : TI := fun σ H R => ta σ H fun vs H1 => ∃ l1 l2 xs ys b1 b2, vs = [.ref l1, .ref l2] /\ SqB K b1 H1 l1 xs /\ SqB K b2 H1 l2 ys /\ R (Itzb K b1 b2 l1 l2) H1
section
variable {X : Cx}
theorem pi_zipB {es : List Expr} {x1 : Nat} {tp : Pos} {a b : Expr} {ta : TA} {p pos : Pos} (hg : Gl X "zip") (hm : X.mg "zip" = none) (ha : PA X [a, b] ta) (hs : starEach [a, b] X.env = [(false, eval a X.env), (false, eval b X.env)] := by rfl) (hs2 : starEach [b] X.env = [(false, eval b X.env)] := by rfl) :
  PI X (.Tuple es x1 tp) (.Call (.Name "zip" p) [a, b] [] pos) (iZipB X.K ta) := by
 intro pins s σ H R I h
 refine Call_ (ld_blt I hg hm b_zip (PyProof.Rows.callWith_type1 (thn (ha pos pins s σ H _ I h) fun us s1 ⟨vs, H1, I1, r1, q1⟩ => ?_) (by rw [hs, hs2]) (by rw [hs2]; rfl)))
 obtain ⟨l1, l2, xs, ys, b1, b2, e, q1, q2, q⟩ := q1
 subst e
 cases r1 with
 | cons r rr =>
  cases rr with
  | cons r' rr =>
   cases rr
   cases r
   cases r'
   obtain ⟨its1, rv1, p1⟩ := I1.seqB q1
   obtain ⟨its2, rv2, p2⟩ := I1.seqB q2
   refine call_zipb p1 p2 fun h' Z k => wpAny_pyIter_zip (s := { s1 with heap := h' }) Z.oz ?_
   refine ⟨s1.heap.objs.size + 4, _, _, _, H1, rfl, I1.kept (t' := s1.toks) k, turn_zipb l1 l2 _ _ _ _ _, Z, fun b hb => ?_, q⟩
   have hb' : s1.heap.objs.size <= b := by
    (simp only [List.mem_cons, List.not_mem_nil, or_false] at hb)
    rcases hb with rfl | rfl | rfl | rfl | rfl <;> (unfold Addr at *; omega)
   exact I1.fpOk hb' (I1.hok.fresh hb')
end
end L2
namespace PF
open PySem PySem.Spec
open L2
section
variable {X : Cx}
noncomputable def sqD : D -> Option (Bool × List PyData)
 | .lst xs => some (true, xs)
 | .tup xs => some (false, xs)
 | _ => none
noncomputable def gZipB (ds : List D) (s : S) : R Wk := match ds with
 | [a, b] => match sqD a, sqD b with
  | some (_, xs), some (_, ys) => .ok ((xs.zip ys).map fun p => D.tup [p.1, p.2], none) s
  | _, _ => .bad
 | _ => .bad
noncomputable def fZipB (f : FA) : FI := fun ρ s => (f ρ s).bind gZipB
theorem seq_inv {K : PySem.W.Frag} {as : As} {H : Hp} {v : V} {d : D} {b : Bool} {xs : List PyData} (r : RD K as H v d) (e : sqD d = some (b, xs)) : ∃ l vs, v = .ref l /\ (∀ as2 H2, Step0 as H as2 H2 -> SqB K b H2 l vs) /\ TDs as H vs xs := by
 cases d with
 | da d =>
  cases d with
  | list zs =>
   cases e
   obtain ⟨l, vs, rfl, n, q, t⟩ := r.lst_inv
   exact ⟨l, vs, rfl, fun as2 H2 st => SqL.of (st.keep _ _ n q), t⟩
  | tuple zs =>
   cases e
   cases r with
   | da t => cases t with
    | tup n q t => exact ⟨_, _, rfl, fun as2 H2 st => SqT.of (st.keep _ _ n q), t⟩
  | _ => cases e
 | _ => cases e
theorem ri_zipB {es : List Expr} {x1 : Nat} {tp : Pos} {a b : Expr} {f : FA} {p pos : Pos} (hm : X.mg "zip" = none) (h : RA X [a, b] f) (hg : Gl X "zip" := by rfl) (hs : starEach [a, b] X.env = [(false, eval a X.env), (false, eval b X.env)] := by rfl) (hs2 : starEach [b] X.env = [(false, eval b X.env)] := by rfl) :
  RI X (.Tuple es x1 tp) (.Call (.Name "zip" p) [a, b] [] pos) (fZipB f) := by
 obtain ⟨t, pa, ra⟩ := h.ex
 refine ⟨_, pi_zipB hg hm pa hs hs2, fun as σ H ρ s Q rl en h => ?_⟩
 refine ra as σ H ρ s _ rl en (Dn.bind h fun ds s1 as1 H1 vs st1 rl1 r1 h1 => ?_)
 unfold gZipB at h1
 split at h1
 ·split at h1
  ·rename_i da db _ xd bx _ yd ea eb
   obtain ⟨v, w, rfl, rv, rw⟩ := r1.two
   obtain ⟨l1, xs, rfl, k1, t1⟩ := seq_inv rv ea
   obtain ⟨l2, ys, rfl, k2, t2⟩ := seq_inv rw eb
   refine ⟨l1, l2, xs, ys, _, _, rfl, k1 as1 H1 (Step.refl _ _).toStep0, k2 as1 H1 (Step.refl _ _).toStep0, Dn.now (Q := Q) h1 rl1 ?_⟩
   intro as2 H2 s2 st2 rl2 _ i
   have sq1 := k1 as2 H2 st2
   have sq2 := k2 as2 H2 st2
   have u1 := t1.mono0 st2
   have u2 := t2.mono0 st2
   refine ⟨fun hl => ⟨xs, ys, sq1, sq2, ?_⟩, fun d hd => ?_⟩
   ·simp only [List.length_map, List.length_zip] at hl
    rw [u1.length, u2.length]
    omega
   ·rw [List.getElem?_map] at hd
    cases q : (List.zip _ _)[i]? with
    | none => rw [q] at hd; cases hd
    | some pr =>
     rw [q] at hd
     cases hd
     rw [List.getElem?_zip_eq_some] at q
     obtain ⟨x, hx, rx⟩ := u1.get q.1
     obtain ⟨y, hy, ry⟩ := u2.get q.2
     refine ⟨⟨xs, ys, x, y, sq1, sq2, hx, hy⟩, fun vv H3 hv => ?_⟩
     obtain ⟨T, rfl, hT⟩ := hv
     obtain ⟨x', y', hx', hy', nw⟩ := hT xs ys sq1 sq2
     rw [hx] at hx'; cases hx'
     rw [hy] at hy'; cases hy'
     exact ⟨step_new nw, rl2.new nw, .da (.tup (fun z => rl2.has z nw.no) nw.at (.cons (rx.mono (step_new nw)) (.cons (ry.mono (step_new nw)) .nil)))⟩
  ·exact h1.elim
 ·exact h1.elim
end
end PF
namespace PF
open PySem PySem.Spec PyProof.Rows PyProof.Rows.KTD
open L2
section
variable {X : Cx}
theorem re_tabF {x : Str} (T : List (Str × Str)) {pos : Pos} (h : ∃ d, X.mg x = some (.ref d) /\ TabF X.K d T) (hg : Gl X x := by rfl) (hd : (x == ("__debug__" : Str)) = false := by decide) : RE X (.Name x pos) (fC (.tabF T)) := by
 obtain ⟨d, hm, t⟩ := h
 exact ⟨_, pe_glob (v := .ref d) hg hm rfl hd, fun as σ H ρ s Q rl en h => Dn.now (Q := Q) h rl (.tabF t)⟩
noncomputable def gIxF (dx dy : D) (s : S) : R D := match dx, dy with
 | .tabF T, .str k => match datumAt k T with
  | some y => .ok (.fn y) s
  | none => .bad
 | _, _ => .bad
theorem ix_tabF : Ix2 X gIxF := ⟨_, ix_fn, fun as H s x y dx dy Q rl r1 r2 h => by
 unfold gIxF at h
 split at h
 ·split at h
  ·rename_i T k _ y hy
   cases r1 with
   | tabF t =>
    cases r2 with
    | da td =>
     cases td with
     | str _ => exact ⟨_, T, k, y, rfl, rfl, t, hy, fun f hf => Dn.now (Q := Q) h rl (.fn hf)⟩
  ·exact h.elim
 ·exact h.elim⟩
structure CalV (X : Cx) (tb : Str -> Option (Nat × FF)) : Prop where
 ok : ∀ y n F, tb y = some (n, F) -> ∃ k, CalF X.prog X.w X.K X.mg X.base y k n F /\ Room k X.A /\ ∀ f : Addr, PySem.W.nsIn X.K mainGlobals y = some (some (.ref f)) -> X.mg y = some (.ref f)
noncomputable def fCallV (tb : Str -> Option (Nat × FF)) (fv : FE) (fa : FA) : FE := fun ρ s => (fv ρ s).bind fun d s1 => match d with
 | .fn y => match tb y with
  | some (n, F) => (fa ρ s1).bind fun ds s2 => if ds.length = n then F ds s2 else .bad
  | none => .bad
 | _ => .bad
theorem re_cv {x : Str} {e : Expr} {es : List Expr} {fv : FE} {fa : FA} {tb : Str -> Option (Nat × FF)} {p pos : Pos} (c : CalV X tb) (hv : RE X (.Name x p) fv) (ha : RA X (e :: es) fa)
  (he : starEach (e :: es) X.env = (false, eval e X.env) :: starEach es X.env := by rfl) (hpl : (backTo pos (starEach es X.env)).any (·.1) = false := by rfl) : RE X (.Call (.Name x p) (e :: es) [] pos) (fCallV tb fv fa) := by
 obtain ⟨tv, pv, rv⟩ := hv.ex
 obtain ⟨ta, pa, ra⟩ := ha.ex
 refine ⟨_, pe_callV pv pa he hpl, fun as σ H ρ s Q rl en h => ?_⟩
 refine rv as σ H ρ s _ rl en (Dn.bind h fun d s1 as1 H1 v st1 rl1 r1 h1 => ?_)
 split at h1
 ·rename_i y
  split at h1
  ·rename_i n F hy
   obtain ⟨k, ⟨f', fd, ps, Fo, m, kk, b⟩, hr, hm⟩ := c.ok y n F hy
   cases r1 with
   | fn hf =>
    have e := hm _ hf
    rw [m] at e
    cases e
    refine ⟨_, rfl, kk, ra as1 σ H1 ρ s1 _ rl1 (en.mono st1) (Dn.bind h1 fun ds s2 as2 H2 vs st2 rl2 r2 h2 => ?_)⟩
    split at h2
    ·rename_i hn
     intro pins σ' sh us I ru
     refine run_fn Fo hr b .nil pass0 I ru ⟨by rw [List.append_nil, r2.length]; exact hn, as2, ds, s2, rl2, ?_, h2⟩
     rw [List.append_nil]; exact r2
    ·exact h2.elim
  ·exact h1.elim
 ·exact h1.elim
end
end PF
namespace L2
open PySem PySem.Spec PyProof.Rows
section
variable {X : Cx}
theorem call_dictT (hc : X.calm = true) : CallR X (.type "dict") (fun vs H Q => ∃ a qs ps, vs = [.ref a] /\ H a = some (.tup (qs.map V.ref)) /\ PairsH H qs ps /\ ps.length < 4000 /\ ∀ p H', New H p (.dK (fillK ps)) H' -> Q (.ref p) H') := by
 intro pins s σ H vs us Q I r h
 obtain ⟨a, qs, ps, rfl, hS, hp, hl, q⟩ := h
 obtain ⟨u, rfl, ru⟩ := vals1 r
 cases ru
 obtain ⟨ws, rel, f⟩ := pairs_at I hp
 have hql : qs.length = ps.length := Paired.length hp
 have hws : ps.length = ws.length := rel.length
 have hsz : ws.length < sizeLine := by rw [sizeLine_eq]; omega
 obtain ⟨z, its, rv, n, e⟩ := (show ObjOk X.prog X.w H s.heap a (.tup (qs.map V.ref)) from I.hok a _ hS)
 have l := rv.length
 rw [List.length_map] at l
 refine dict_from (I.ok.hd hc) (.inr rfl) e rfl rfl rfl ws (by rw [List.size_toArray]; omega) hsz (fun i k v item e1 e2 => ?_) fun h' tk dd k => ?_
 ·have hi : i < qs.length := by have := (List.getElem?_eq_some_iff.mp e1).1; omega
  obtain ⟨u, hu, ru⟩ := rv.get (show (qs.map V.ref)[i]? = some (.ref qs[i]) by rw [List.getElem?_map, List.getElem?_eq_getElem hi]; rfl)
  rw [List.getElem?_toArray, hu] at e2
  obtain rfl : u = item := Option.some.inj e2
  obtain rfl : u = Value.ref qs[i] := ru
  exact f i k v e1 _ (List.getElem?_eq_getElem hi)
 ·exact ⟨.ref s.heap.objs.size, upd H s.heap.objs.size (.dK (fillK ps)), I.laid k (Nat.le_refl _) (dk_new (Nat.le_trans (fillK_len _) (by rw [sizeLine_eq]; omega)) (beq_eq_false_iff_ne.mpr (Ne.symm (Nat.ne_of_lt I.big))) (fill_KV rel) dd), rfl, q _ _ ⟨I.fresh, rfl⟩⟩
end
end L2
namespace PF
open PySem PySem.Spec
open L2
section
variable {X : Cx} {K : PySem.W.Frag} {as : As} {H : Hp}
noncomputable def pairD : PyData -> Option (PyData × PyData)
 | .tuple [k, v] => if isK k = true then some (k, v) else none
 | _ => none
noncomputable def fillD (ps : List (PyData × PyData)) : List (PyData × D) := ps.foldl (fun d p => dPut d p.1 (.da p.2)) []
noncomputable def gDictT (ds : List D) (s : S) : R D := match ds with
 | [.tup xs] => match xs.mapM pairD with
  | some ps => if ps.length < 4000 then .ok (.ref s.length) (s ++ [.dct (fillD ps)]) else .bad
  | none => .bad
 | _ => .bad
theorem pairs_h {s : S} (rl : Rel K as H s) : ∀ {vs : List V} {xs : List PyData} {ps : List (PyData × PyData)}, TDs as H vs xs -> xs.mapM pairD = some ps -> ∃ (qs : List Addr) (kvs : List (Key × V)), vs = qs.map V.ref /\ PairsH H qs kvs /\ Paired (fun (p : Key × V) (q : PyData × PyData) => q.1 = kP p.1 /\ TD as H p.2 q.2) kvs ps
 | _, _, _, .nil, e => by
  cases e
  exact ⟨[], [], rfl, .nil, .nil⟩
 | _, _, ps, .cons (x := v) (d := d) (ds := ds) t r, e => by
  rw [List.mapM_cons] at e
  cases hd : pairD d with
  | none => rw [hd] at e; cases e
  | some p =>
   rw [hd] at e
   cases hr : ds.mapM pairD with
   | none => rw [hr] at e; cases e
   | some ps' =>
    rw [hr] at e
    cases e
    obtain ⟨qs, kvs, e1, e2, e3⟩ := pairs_h rl r hr
    unfold pairD at hd
    split at hd
    ·rename_i k y
     split at hd
     ·rename_i hk
      cases hd
      obtain ⟨a, rfl⟩ := isK_kP hk
      cases t with
      | @tup q ws _ n eh ts =>
       cases ts with
       | @cons v1 _ _ _ t1 ts =>
        cases ts with
        | @cons v2 _ _ _ t2 ts =>
         cases ts
         have := kP_v t1
         subst this
         exact ⟨q :: qs, (a, v2) :: kvs, by rw [e1]; rfl, .cons (.inl eh) e2, .cons ⟨rfl, t2⟩ e3⟩
     ·cases hd
    ·cases hd
theorem fill_rel {kvs : List (Key × V)} {ps : List (PyData × PyData)} (h : Paired (fun (p : Key × V) (q : PyData × PyData) => q.1 = kP p.1 /\ TD as H p.2 q.2) kvs ps) : DRs K as H (pvK (fillK kvs)) (fillD ps) := by
 have go : ∀ (l : List (Key × V)) (d : List (PyData × D)), DRs K as H (pvK l) d -> DRs K as H (pvK (kvs.foldl (fun d p => putK d p.1 p.2) l)) (ps.foldl (fun d p => dPut d p.1 (.da p.2)) d) := by
  induction h with
  | nil => intro l d z; exact z
  | cons r t ih =>
   intro l d z
   (rw [List.foldl_cons, List.foldl_cons])
   refine ih _ _ ?_
   rw [put_pv, r.1]
   exact z.put (.da r.2) _
 exact go [] [] .nil
theorem c_dictT (hc : X.calm = true) : CB X (.type "dict") gDictT := ⟨_, call_dictT hc, fun as H s xs ds Q rl rs h => by
 unfold gDictT at h
 split at h
 ·split at h
  ·split at h
   ·rename_i ys ps hps hl
    obtain ⟨v, rfl, rv⟩ := rs.one
    obtain ⟨p, vs, rfl, n, e, t⟩ := rv.tup_inv
    obtain ⟨qs, kvs, rfl, hp, hr⟩ := pairs_h rl t hps
    refine ⟨p, qs, kvs, rfl, e, hp, by rw [Paired.length hr]; exact hl, fun q H' nw => ?_⟩
    refine h (.ref q) (as.add q) H' (step_laid nw) (rl.laid nw (.inl ⟨fillK kvs, nw.at, (fill_rel hr).mono (step_laid nw)⟩)) (.ref (by simp [rl.len]) fun q' e' => ?_)
    rw [← rl.len] at e'
    simp at e'
    exact e'.symm
   ·exact h.elim
  ·exact h.elim
 ·exact h.elim⟩
end
end PF
namespace L2
open PySem PySem.Spec PyProof.Rows
theorem fill_tuple : fillsNumberSlot (.type "tuple") "mul" = pure false := PySem.fillsNumberSlot_seq (id := "tuple.__mul__") (r := some (.builtin "tuple.__rmul__")) F.slot_tuple_mul.lookup (by decide +kernel) F.slot_tuple_rmul.lookup (by decide +kernel)
theorem rep_tuple : seqRepeat? (.type "tuple") = pure (some (.builtin "tuple.__mul__")) := by
 unfold seqRepeat?
 rw [PySem.seqSlot_of (T := "tuple") (name := "__mul__") (id := "tuple.__mul__") F.slot_tuple_mul.lookup (by decide +kernel), PySem.seqSlot_of (T := "tuple") (name := "__rmul__") (id := "tuple.__rmul__") F.slot_tuple_rmul.lookup (by decide +kernel)]; rfl
theorem rep_size (items : Array Value) : ∀ (k : Nat) (acc : Array Value), ((List.replicate k items).foldl (· ++ ·) acc).size = acc.size + k * items.size
 | 0, acc => by simp
 | k + 1, acc => by
  rw [List.replicate_succ, List.foldl_cons, rep_size items k, Array.size_append, Nat.succ_mul]; omega
theorem rep_list (items : List Value) : ∀ (k : Nat) (acc : Array Value), ((List.replicate k items.toArray).foldl (· ++ ·) acc).toList = acc.toList ++ (List.replicate k items).flatten
 | 0, acc => by simp
 | k + 1, acc => by
  rw [List.replicate_succ, List.foldl_cons, rep_list items k, List.replicate_succ, List.flatten_cons]; simp
theorem tup_mul (l : Addr) (items : Array Value) (n : Nat) (x : Int) (u : Tok) (h0 : -1000 < x) (h1 : x < 1000) (h2 : items.size < 1000) (he : items.isEmpty = false) :
  Meets (Builtin.«tuple.__mul__» ⟨[.ref l, .int x u], []⟩) (fun _ R s => s.heap.get? l = some { cls := .type "tuple", data := .seq items n } /\
   if x = 1 then R (.ok (.ret (.ref l))) s else R (.ok (.ret (.ref s.heap.objs.size))) { s with heap := s.heap.push { cls := .type "tuple", data := .seq ((List.replicate x.toNat items).foldl (· ++ ·) #[]) } }) :=
 .of_wp fun prog w A R s h => by
  (obtain ⟨hp, g, d, tk, os⟩ := s; obtain ⟨hl, h⟩ := h)
  wp_walk
  (refine wpAny_ite_false (by simp; omega) ?_)
  wp_walk
  by_cases e1 : x = 1
  ·rw [if_pos e1] at h
   refine wpAny_ite_true (by simp [e1]) ?_
   wp_walk
   exact ⟨_, rfl, h⟩
  ·rw [if_neg e1] at h
   refine wpAny_ite_false (by simp [he, e1]) ?_
   by_cases e2 : x <= 0
   ·refine wpAny_ite_true (by simp [e2]) ?_
    have e3 : x.toNat = 0 := by omega
    rw [e3] at h
    wp_walk
    exact ⟨_, rfl, h⟩
   ·refine wpAny_ite_false (by simp [he]; omega) ?_
    obtain ⟨k, rfl⟩ : ∃ k : Nat, x = (k : Int) := ⟨x.toNat, by omega⟩
    have b0 : items.size * k < 1000000 := Nat.mul_lt_mul'' (c := 1000) (d := 1000) h2 (by omega)
    have b1 : (items.size : Int) * (k : Int) < 1000000 := by
     have hb := Int.ofNat_lt.mpr b0
     rw [Int.natCast_mul] at hb
     exact hb
    generalize hp0 : (items.size : Int) * (k : Int) = pr at b1 ⊢
    (refine wpAny_ite_false (by simp; omega) ?_)
    refine wpAny_ite_false (by unfold Builtin.Tuple.tupleTooMany; rw [sizeLine_eq]; simp; omega) ?_
    rw [Int.toNat_natCast] at h ⊢
    wp_walk
    have hz : ((List.replicate k items).foldl (· ++ ·) #[]).size <= sizeLine := by
     rw [rep_size, sizeLine_eq, Nat.mul_comm]; simp; omega
    refine wpAny_ite_false (decide_eq_false (Nat.not_lt.mpr hz)) ?_
    wp_walk
    exact ⟨_, rfl, h⟩
theorem rmul_tup (a : Int) (t : Tok) (l : Addr) (items : Array Value) (n : Nat) :
  Meets (Builtin.«int.__rmul__» ⟨[.int a t, .ref l], []⟩) (fun _ R s => s.heap.get? l = some { cls := .type "tuple", data := .seq items n } /\ R (.ok (.ret Value.notImplemented)) s) :=
 .of_wp fun prog w A R s h => by
  (obtain ⟨hp, g, d, tk, os⟩ := s; obtain ⟨hl, h⟩ := h)
  wp_walk
  exact ⟨_, rfl, h⟩
section
variable {P : Program} {w : World} {A : Around} {E : Value -> Shared -> Prop} {s : Shared}
theorem op_mulT {l : Addr} {items : Array Value} {n : Nat} {x : Int} {u : Tok} {Q : Value -> Shared -> Prop} (ho : s.heap.get? l = some { cls := .type "tuple", data := .seq items n }) (h0 : -1000 < x) (h1 : x < 1000) (h2 : items.size < 1000) (he : items.isEmpty = false)
  (h : if x = 1 then Q (.ref l) s else Q (.ref s.heap.objs.size) { s with heap := s.heap.push { cls := .type "tuple", data := .seq ((List.replicate x.toNat items).foldl (· ++ ·) #[]) } }) : wpAny (model P w) A (binaryOp .Mult (.ref l) (.int x u)) Q E s := by
 refine wpAny_binaryOp_repeat_ref (T := "tuple") (U := "int") (by decide) ⟨_, ho, rfl⟩ (fun s' => typeIs_int s' x u) fill_tuple F.fills_int_mul F.slot_int_rmul rep_tuple F.slot_int_index.lookup
  (call_meets F.slot_int_rmul (typeIs_int s x u) F.entry_int_rmul (F.args_int_rmul_2 _ _) (rmul_tup x u l items n) ⟨ho, rfl, ⟨_, ho, rfl⟩, call_meets F.slot_tuple_mul ⟨_, ho, rfl⟩ F.entry_tuple_mul (F.args_tuple_mul_2 _ _) (tup_mul l items n x u h0 h1 h2 he) ⟨ho, ?_⟩⟩)
 by_cases e : x = 1
 ·rw [if_pos e] at h ⊢; exact h
 ·rw [if_neg e] at h ⊢; exact h
end
end L2
namespace PF
open PySem PySem.Spec
open L2
section
variable {X : Cx} {K : PySem.W.Frag} {as : As} {H : Hp}
noncomputable def gMulT (dx dy : D) (s : S) : R D := match dx, dy with
 | .tup xs, .int i => if -1000 < i /\ i < 1000 /\ xs.length < 1000 /\ xs ≠ [] then .ok (.tup (List.replicate i.toNat xs).flatten) s else .bad
 | dx, dy => gMul dx dy s
theorem TDs.app : ∀ {vs ws : List V} {ds es : List PyData}, TDs as H vs ds -> TDs as H ws es -> TDs as H (vs ++ ws) (ds ++ es)
 | _, _, _, _, .nil, s => s
 | _, _, _, _, .cons a r, s => .cons a (TDs.app r s)
theorem TDs.rep {vs : List V} {ds : List PyData} (t : TDs as H vs ds) : ∀ k : Nat, TDs as H (List.replicate k vs).flatten (List.replicate k ds).flatten
 | 0 => .nil
 | k + 1 => by
  rw [List.replicate_succ, List.replicate_succ, List.flatten_cons, List.flatten_cons]
  exact t.app (TDs.rep t k)
theorem vals_rep {vs : List V} {us : List Value} (r : Vals vs us) : ∀ k : Nat, Vals (List.replicate k vs).flatten (List.replicate k us).flatten
 | 0 => .nil
 | k + 1 => by
  rw [List.replicate_succ, List.replicate_succ, List.flatten_cons, List.flatten_cons]
  exact r.append (vals_rep r k)
theorem o_mulT : Op2 X (binaryOp .Mult) gMulT := op2_of fun pins sh σ H as s x y dx dy v u Q I rl r1 r2 rx ry h => by
 unfold gMulT at h
 split at h
 ·rename_i xs i
  split at h
  ·rename_i hb
   obtain ⟨b1, b2, b3, b4⟩ := hb
   obtain ⟨p, vs, rfl, n, e, t⟩ := r1.tup_inv
   cases r2.int_inv
   cases rx
   obtain ⟨tk, rfl⟩ := ry
   obtain ⟨z, its, rv, c, eo⟩ := (show ObjOk X.prog X.w H sh.heap p (.tup vs) from I.hok p _ e)
   have hl1 := t.length
   have hl2 := rv.length
   have hne : its.toArray.isEmpty = false := by
    cases its with
    | nil => simp at hl2; rw [hl2] at hl1; simp at hl1; exact absurd hl1.symm (by simpa using b4)
    | cons a r => rfl
   refine op_mulT eo b1 b2 (by rw [List.size_toArray]; omega) hne ?_
   by_cases e1 : i = 1
   ·rw [if_pos e1]
    subst e1
    have : (List.replicate (1 : Int).toNat xs).flatten = xs := by simp
    rw [this] at h
    exact ⟨.ref p, H, I, rfl, Dn.now (Q := Q) h rl (.da (.tup n e t))⟩
   ·rw [if_neg e1]
    have hz : (List.replicate i.toNat vs).flatten.length <= sizeLine := by
     rw [List.length_flatten, List.map_replicate, List.sum_replicate_nat, sizeLine_eq]
     have := Nat.mul_lt_mul'' (a := i.toNat) (c := 1000) (b := vs.length) (d := 1000) (by omega) (by omega)
     omega
    have I2 : Inv X pins σ (upd H sh.heap.objs.size (.tup (List.replicate i.toNat vs).flatten)) { sh with heap := sh.heap.push { cls := .type "tuple", data := .seq ((List.replicate i.toNat its.toArray).foldl (· ++ ·) #[]) }, toks := sh.toks } :=
     I.laid (fun b o e => Heap.get?_push_of_some _ e) (Nat.le_refl _) ⟨hz, (List.replicate i.toNat its).flatten, vals_rep rv _, 0, by
      have := rep_list its i.toNat #[]
      rw [show ((List.replicate i.toNat its).flatten).toArray = (List.replicate i.toNat its.toArray).foldl (· ++ ·) #[] from by
       apply Array.toList_inj.mp; rw [this]; simp]
      exact Heap.get?_push_size _ rfl⟩
    have nw : New H sh.heap.objs.size (.tup (List.replicate i.toNat vs).flatten) (upd H sh.heap.objs.size (.tup (List.replicate i.toNat vs).flatten)) := ⟨I.hok.fresh (Nat.le_refl _), rfl⟩
    exact ⟨.ref _, _, I2, rfl, h (.ref _) as _ (step_new nw) (rl.new nw) (.da (.tup (fun z => rl.has z nw.no) nw.at ((t.rep _).mono (step_new nw))))⟩
  ·exact h.elim
 ·obtain ⟨r, o, f⟩ := (o_mul (X := X)).ex
  exact o pins sh σ H x y v u Q I rx ry (f as H s x y dx dy Q rl r1 r2 h)
end
end PF
namespace L2
open PySem PySem.Spec PyProof.Rows
section
variable {X : Cx}
noncomputable def intsV : Nat -> List V := fun n => (List.range n).map fun i : Nat => V.int (i : Int)
theorem call_range : CallR X (.type "range") (fun xs H Q => ∃ j : Int, xs = [.int j] /\ ∀ r H', New H r (.rng 0 j) H' -> Q (.ref r) H') := by
 intro pins s σ H xs us Q I r h
 obtain ⟨j, rfl, q⟩ := h
 obtain ⟨u, rfl, ru⟩ := vals1 r
 obtain ⟨t, rfl⟩ := ru
 refine call_range_1 ⟨.ref s.heap.objs.size, upd H s.heap.objs.size (.rng 0 j), ?_, rfl, q _ _ ⟨I.fresh, rfl⟩⟩
 exact I.laid (fun b o e => Heap.get?_push_of_some _ e) (Nat.le_refl _) ⟨_, _, _, Heap.get?_push_size _ rfl⟩
theorem call_listRng (hc : X.calm = true) : CallR X (.type "list") (fun xs H Q => ∃ r j, xs = [.ref r] /\ H r = some (.rng 0 j) /\ 0 <= j /\ j < 4000 /\ ∀ l H', New H l (.lst (intsV j.toNat)) H' -> Q (.ref l) H') := by
 intro pins s σ H xs us Q I r h
 obtain ⟨a, j, rfl, e, h0, h1, q⟩ := h
 obtain ⟨u, rfl, ru⟩ := vals1 r
 cases ru
 obtain ⟨t, u, v, eo⟩ := (show ObjOk X.prog X.w H s.heap a (.rng 0 j) from I.hok a _ e)
 obtain ⟨n, rfl⟩ : ∃ n : Nat, j = (n : Int) := ⟨j.toNat, by omega⟩
 refine call_list_range (n := n) (I.ok.hd hc) eo (small_one (by omega) (by omega) (by omega) (by omega)) (by unfold Builtin.Range.rangeSize; rw [if_pos (by decide)]; split <;> omega) (by omega) fun h' tk acc c k hS it => ?_
 rw [Int.toNat_natCast] at q
 refine ⟨.ref s.heap.objs.size, upd H s.heap.objs.size (.lst (intsV n)), ?_, rfl, q _ _ ⟨I.fresh, rfl⟩⟩
 refine I.laid k (Nat.le_refl _) ⟨by simp [intsV]; rw [sizeLine_eq]; omega, acc.toList, c, ?_, by simpa using hS⟩
 obtain ⟨i1, i2⟩ := it
 have go : ∀ (m : Nat) (l : List Value) (b : Nat), l.length = m -> (∀ j v, l[j]? = some v -> ∃ t, v = Value.int ((b + j : Nat) : Int) t) -> Vals ((List.range' b m).map fun i : Nat => V.int (i : Int)) l := fun m => by
  induction m with
  | zero => intro l b hl _; rw [List.length_eq_zero_iff.mp hl]; exact .nil
  | succ m ih =>
   intro l b hl hv
   cases l with
   | nil => simp at hl
   | cons x r =>
    rw [List.range'_succ, List.map_cons]
    refine .cons ?_ (ih r (b + 1) (by simpa using hl) fun j v e => ?_)
    ·obtain ⟨t, e⟩ := hv 0 x rfl
     exact ⟨t, by simpa using e⟩
    ·obtain ⟨t, e⟩ := hv (j + 1) v (by simpa using e)
     exact ⟨t, by rw [e]; congr 1; omega⟩
 have := go n acc.toList 0 (by simpa using i1) fun j v e => by
  obtain ⟨t, e⟩ := i2 j v (by simpa using e)
  exact ⟨t, by rw [e]; simp⟩
 rw [← List.range_eq_range'] at this
 exact this
end
end L2
namespace PF
open PySem PySem.Spec
open L2
section
variable {X : Cx}
noncomputable def gListR (m : Bool) (ds : List D) (s : S) : R D := match ds with
 | [.int j] => if 0 <= j /\ j < 4000 then newL m ((List.range j.toNat).map fun i : Nat => D.int (i : Int)) s else .bad
 | _ => .bad
theorem rds_ints {K : PySem.W.Frag} {as : As} {H : Hp} : ∀ l : List Nat, RDs K as H (l.map fun i : Nat => V.int (i : Int)) (l.map fun i : Nat => D.int (i : Int))
 | [] => .nil
 | x :: r => .cons (.da (.int _)) (rds_ints r)
theorem re_listR (m : Bool) {a : Expr} {f : FA} {p p1 pos pos1 : Pos} (hc : X.calm = true) (n1 : X.mg "list" = none) (n2 : X.mg "range" = none) (h : RA X [a] f) (g1 : Gl X "list" := by rfl) (g2 : Gl X "range" := by rfl)
  (he : starEach [a] X.env = (false, eval a X.env) :: starEach [] X.env := by rfl) (hpl : (backTo pos1 (starEach [] X.env)).any (·.1) = false := by rfl)
  (he2 : starEach [.Call (.Name "range" p1) [a] [] pos1] X.env = (false, eval (.Call (.Name "range" p1) [a] [] pos1) X.env) :: starEach [] X.env := by rfl) (hpl2 : (backTo pos (starEach [] X.env)).any (·.1) = false := by rfl) :
  RE X (.Call (.Name "list" p) [.Call (.Name "range" p1) [a] [] pos1] [] pos) (fCB (gListR m) f) := by
 obtain ⟨t, pa, ra⟩ := h.ex
 refine ⟨_, pe_callTy (call_listRng hc) g1 n1 b_list (pa_cons (pe_callTy call_range g2 n2 b_range pa (by decide) (by decide) he hpl) pa_nil he2) (by decide) (by decide) he2 hpl2, fun as σ H ρ s Q rl en h => ?_⟩
 refine ra as σ H ρ s _ rl en (Dn.bind h fun ds s1 as1 H1 vs st1 rl1 r1 h1 => ?_)
 unfold gListR at h1
 split at h1
 ·rename_i j
  split at h1
  ·rename_i hb
   obtain ⟨v, rfl, rv⟩ := r1.one
   cases rv.int_inv
   refine ⟨j, rfl, fun r H2 n2 => ⟨r, j, rfl, n2.at, hb.1, hb.2, fun l H3 n3 => ?_⟩⟩
   exact newL_ok (Dn.step h1 (step_new n2)) (rl1.new n2) (rds_ints _) n3
  ·exact h1.elim
 ·exact h1.elim
end
end PF
namespace L2
open PySem PySem.Spec PyProof.Rows
section
variable {P : Program} {w : World} {A : Around} {E : Value -> Shared -> Prop} {s : Shared}
theorem op_mulL {l : Addr} {items : Array Value} {n : Nat} {x : Int} {u : Tok} {Q : Value -> Shared -> Prop} (ho : s.heap.get? l = some { cls := .type "list", data := .seq items n }) (h0 : -1000 < x) (h1 : x < 1000) (h2 : items.size < 1000)
  (h : Q (.ref s.heap.objs.size) { s with heap := s.heap.push { cls := .type "list", data := .seq (List.replicate x.toNat items.toList).flatten.toArray } }) : wpAny (model P w) A (binaryOp .Mult (.ref l) (.int x u)) Q E s := by
 have b0 : items.size * x.toNat < 1000000 := Nat.mul_lt_mul'' (c := 1000) (d := 1000) h2 (by omega)
 refine wpAny_binaryOp_repeat_ref (T := "list") (U := "int") (by decide) ⟨_, ho, rfl⟩ (fun s' => typeIs_int s' x u) noFill_list_mul F.fills_int_mul F.slot_int_rmul repeat_list F.slot_int_index.lookup --
  (call_meets F.slot_int_rmul (typeIs_int s x u) F.entry_int_rmul (F.args_int_rmul_2 _ _) (lm_int_rmul_list_any x u l items n none #[])
   ⟨ho, rfl, ⟨_, ho, rfl⟩, call_meets F.slot_list_mul ⟨_, ho, rfl⟩ F.entry_list_mul (F.args_list_mul_2 _ _) --
    (lm_list_mul_any l items n none #[] x u (by simp [Builtin.List.listFitsIndex]; omega) (by omega) (by simp [Builtin.List.listTooLong, sizeLine]; omega)) ⟨ho, ?_⟩⟩)
 have e := listMul_foldl_if items x.toNat
 show Q _ _
 rw [e]
 exact h
end
end L2
namespace PF
open PySem PySem.Spec
open L2
section
variable {X : Cx}
noncomputable def gMulL (m : Bool) (dx dy : D) (s : S) : R D := match toL s dx, dy with
 | some xs, .int i => if -1000 < i /\ i < 1000 /\ xs.length < 1000 then newL m (List.replicate i.toNat xs).flatten s else .bad
 | _, _ => gMulT dx dy s
theorem RDs.rep {K : PySem.W.Frag} {as : As} {H : Hp} {vs : List V} {ds : List D} (t : RDs K as H vs ds) : ∀ k : Nat, RDs K as H (List.replicate k vs).flatten (List.replicate k ds).flatten
 | 0 => .nil
 | k + 1 => by
  rw [List.replicate_succ, List.replicate_succ, List.flatten_cons, List.flatten_cons]
  exact t.append (RDs.rep t k)
theorem o_mulL (m : Bool) : Op2 X (binaryOp .Mult) (gMulL m) := op2_of fun pins sh σ H as s x y dx dy v u Q I rl r1 r2 rx ry h => by
 unfold gMulL at h
 split at h
 ·rename_i xs i hx
  split at h
  ·rename_i hb
   obtain ⟨b1, b2, b3⟩ := hb
   obtain ⟨p, vs, rfl, e, t⟩ := toL_ok rl r1 hx
   cases r2.int_inv
   cases rx
   obtain ⟨tk, rfl⟩ := ry
   obtain ⟨z, its, c, rv, eo⟩ := (show ObjOk X.prog X.w H sh.heap p (.lst vs) from I.hok p _ e)
   have hl1 := t.length
   have hl2 := rv.length
   refine op_mulL eo b1 b2 (by rw [List.size_toArray]; omega) ?_
   have hz : (List.replicate i.toNat vs).flatten.length <= sizeLine := by
    rw [List.length_flatten, List.map_replicate, List.sum_replicate_nat, sizeLine_eq]
    have := Nat.mul_lt_mul'' (a := i.toNat) (c := 1000) (b := vs.length) (d := 1000) (by omega) (by omega)
    omega
   have I2 : Inv X pins σ (upd H sh.heap.objs.size (.lst (List.replicate i.toNat vs).flatten)) { sh with heap := sh.heap.push { cls := .type "list", data := .seq (List.replicate i.toNat its.toArray.toList).flatten.toArray }, toks := sh.toks } :=
    I.laid (fun b o e => Heap.get?_push_of_some _ e) (Nat.le_refl _) ⟨hz, (List.replicate i.toNat its).flatten, 0, vals_rep rv _, Heap.get?_push_size _ rfl⟩
   have nw : New H sh.heap.objs.size (.lst (List.replicate i.toNat vs).flatten) (upd H sh.heap.objs.size (.lst (List.replicate i.toNat vs).flatten)) := ⟨I.hok.fresh (Nat.le_refl _), rfl⟩
   exact ⟨.ref _, _, I2, rfl, newL_ok h rl (t.rep _) nw⟩
  ·exact h.elim
 ·obtain ⟨r, o, f⟩ := (o_mulT (X := X)).ex
  exact o pins sh σ H x y v u Q I rx ry (f as H s x y _ _ Q rl r1 r2 h)
end
end PF
namespace PF
open PySem PySem.Spec L2
theorem u70 {A : Around} {k : Nat} (hr : Room k A) : A.units + 70 < cLine := by have := hr.un; omega
end PF
namespace PF
open PySem PySem.Spec
open L2
section
variable {s : S} {m : Bool} {n : Nat} {x y : Str} {b : Bool} {xs ys : List PyData} {ds es : List D} {d e v o : D} {ρ : En} {kvs : List (PyData × D)} {k : PyData}
noncomputable def kMd1 (g : GM) (fa : FA) (ρ : En) (d : D) (s : S) : R D := onD d s fun _ _ => (fa ρ s).bind fun ds s2 => g d ds s2
theorem e_md {g : GM} {fo : FE} {fa : FA} : fMd g fo fa ρ s = (fo ρ s).bind (kMd1 g fa ρ) := (rfl)
theorem onD_ref {α : Type} {f : Nat -> List (PyData × D) -> R α} (h : s[n]? = some (.dct kvs)) : onD (.ref n) s f = f n kvs := by
 show (match s[n]? with | some (O.dct kvs) => f n kvs | _ => .bad) = _
 rw [h]
theorem e_md1 {g : GM} {fa : FA} (h : s[n]? = some (.dct kvs)) : kMd1 g fa ρ (.ref n) s = (fa ρ s).bind (kMt2 g (.ref n)) := onD_ref h
theorem e_zipB {f : FA} : fZipB f ρ s = (f ρ s).bind gZipB := (rfl)
theorem zipB_tt : gZipB [.tup xs, .tup ys] s = .ok ((xs.zip ys).map fun p => D.tup [p.1, p.2], none) s := (rfl)
theorem sorted_lst (h1 : xs.length < 64) (h2 : cmpb xs = true) (h3 : xs.all okD = true) : gSorted false [.lst xs] s = .ok (.lst (srtD xs)) s := by
 show (match (some (xs.map D.da)).bind pures with | some xs => if xs.length < 64 /\ cmpb xs = true /\ xs.all okD = true then newL false ((srtD xs).map D.da) s else .bad | none => .bad) = _
 show (match pures (xs.map D.da) with | some xs => if xs.length < 64 /\ cmpb xs = true /\ xs.all okD = true then newL false ((srtD xs).map D.da) s else .bad | none => .bad) = _
 rw [pures_da]
 show (if xs.length < 64 /\ cmpb xs = true /\ xs.all okD = true then newL false ((srtD xs).map D.da) s else .bad) = _
 rw [if_pos ⟨h1, h2, h3⟩]
 exact e_newF
theorem toP_ref (h : s[n]? = some (.lst (xs.map D.da))) : toP s (.ref n) = some (.list xs) := by
 show (match s[n]? with | some (O.lst ds) => (pures ds).map PyData.list | _ => none) = _
 rw [h]
 show (pures (xs.map D.da)).map PyData.list = _
 rw [pures_da]; rfl
end
noncomputable def addK (ks : List PyData) (k : PyData) : List PyData := if k ∈ ks then ks else ks ++ [k]
theorem put_keys {α : Type} (kvs : List (PyData × α)) (k : PyData) (v : α) : (dPut kvs k v).map (·.1) = addK (kvs.map (·.1)) k := by
 unfold dPut addK
 have e : (kvs.any fun e => decide (e.1 = k)) = decide (k ∈ kvs.map (·.1)) := by
  rw [Bool.eq_iff_iff, List.any_eq_true, decide_eq_true_eq, List.mem_map]
  constructor
  ·rintro ⟨x, hx, h⟩; exact ⟨x, hx, of_decide_eq_true h⟩
  ·rintro ⟨x, hx, h⟩; exact ⟨x, hx, decide_eq_true h⟩
 rw [e]
 by_cases c : k ∈ kvs.map (·.1)
 ·rw [if_pos (decide_eq_true c), if_pos c, List.map_map]
  (refine List.map_congr_left fun x _ => ?_)
  show (if x.1 = k then (x.1, v) else x).1 = x.1
  split <;> rfl
 ·rw [if_neg (fun h => c (of_decide_eq_true h)), if_neg c, List.map_append]; rfl
theorem get_put {α : Type} (kvs : List (PyData × α)) (k j : PyData) (v : α) : dGet (dPut kvs k v) j = if k = j then some v else dGet kvs j := by
 unfold dPut
 split
 ·rename_i c
  induction kvs with
  | nil => simp at c
  | cons x r ih =>
   by_cases hx : x.1 = k
   ·by_cases hj : k = j
    ·subst hj
     rw [if_pos rfl]
     simp [dGet, hx]
    ·have hxj : x.1 ≠ j := fun z => hj (hx.symm.trans z)
     rw [if_neg hj]
     by_cases hr : (r.any fun e => decide (e.1 = k)) = true
     ·have := ih hr
      rw [if_neg hj] at this
      simp only [List.map_cons, if_pos hx]
      unfold dGet at this ⊢
      rw [List.find?_cons_of_neg (by simpa using hxj), List.find?_cons_of_neg (by simpa using hxj)]
      exact this
     ·have e2 : r.map (fun e => if e.1 = k then (e.1, v) else e) = r := by
       refine (List.map_congr_left fun y hy => ?_).trans (List.map_id _)
       have : ¬ y.1 = k := fun z => hr (List.any_eq_true.mpr ⟨y, hy, decide_eq_true z⟩)
       rw [if_neg this]; rfl
      simp only [List.map_cons, if_pos hx, e2]
      unfold dGet
      rw [List.find?_cons_of_neg (by simpa using hxj), List.find?_cons_of_neg (by simpa using hxj)]
   ·have hr : (r.any fun e => decide (e.1 = k)) = true := by
     rw [List.any_cons, decide_eq_false hx, Bool.false_or] at c; exact c
    have := ih hr
    simp only [List.map_cons, if_neg hx]
    unfold dGet at this ⊢
    by_cases hxj : x.1 = j
    ·have hkj : ¬ k = j := fun z => hx (hxj.trans z.symm)
     rw [if_neg hkj, List.find?_cons_of_pos (by simpa using hxj), List.find?_cons_of_pos (by simpa using hxj)]
    ·rw [List.find?_cons_of_neg (by simpa using hxj), List.find?_cons_of_neg (by simpa using hxj)]
     exact this
 ·rename_i c
  have hn : ∀ y ∈ kvs, y.1 ≠ k := fun y hy z => c (List.any_eq_true.mpr ⟨y, hy, decide_eq_true z⟩)
  unfold dGet
  rw [List.find?_append]
  by_cases hj : k = j
  ·subst hj
   rw [if_pos rfl, List.find?_eq_none.mpr fun y hy => by simpa using hn y hy]
   simp
  ·rw [if_neg hj]
   cases e : kvs.find? fun e => decide (e.1 = j) with
   | some y => rfl
   | none => simp [hj]
theorem comp_da {g : Tg} {ft : FT} {fe : FE} {ρ0 : En} {all : List D} {s : S} {α : Type} (c : α -> D) (p : α -> Bool) (f : α -> PyData) : ∀ (l : List α), (∀ a ∈ l, ∃ ρ1, setD g (c a) ρ0 = some ρ1 /\ ft ρ1 s = .ok (p a) s /\ (p a = true -> fe ρ1 s = .ok (.da (f a)) s)) ->
  compF g ft fe ρ0 (all, none) (l.map c) s = .ok (((l.filter p).map f).map D.da) s
 | [], _ => rfl
 | a :: r, h => by
  obtain ⟨ρ1, e, e1, e2⟩ := h a List.mem_cons_self
  have ih := comp_da (all := all) c p f r fun b hb => h b (List.mem_cons_of_mem _ hb)
  rw [List.map_cons, comp_cons e, e1, R.bind_ok]
  cases hp : p a with
  | false =>
   rw [comp_f, ih, List.filter_cons_of_neg (by simp [hp])]
  | true =>
   rw [comp_t, e2 hp, R.bind_ok, comp_x, ih, R.bind_ok, e_cons2, List.filter_cons_of_pos hp]
   rfl
end PF
namespace PF
open PySem PySem.Spec PyProof.Rows.KTD
open L2
section
variable {s : S} {n : Nat} {x y : Str} {xs : List PyData} {ds : List D} {d : D} {ρ : En} {i j : Int}
theorem ixF_ok {T : List (Str × Str)} (h : PyProof.Rows.KTD.datumAt x T = some y) : gIxF (.tabF T) (.str x) s = .ok (.fn y) s := by
 show (match PyProof.Rows.KTD.datumAt x T with | some y => R.ok (D.fn y) s | none => .bad) = _
 rw [h]
noncomputable def kCv1 (tb : Str -> Option (Nat × FF)) (fa : FA) (ρ : En) (d : D) (s : S) : R D := match d with
 | .fn y => match tb y with
  | some (n, F) => (fa ρ s).bind fun ds s2 => if ds.length = n then F ds s2 else .bad
  | none => .bad
 | _ => .bad
theorem e_cv {tb : Str -> Option (Nat × FF)} {fv : FE} {fa : FA} : fCallV tb fv fa ρ s = (fv ρ s).bind (kCv1 tb fa ρ) := (rfl)
theorem e_cv1 {tb : Str -> Option (Nat × FF)} {fa : FA} {F : FF} (h : tb y = some (n, F)) : kCv1 tb fa ρ (.fn y) s = (fa ρ s).bind (kCall n F) := by
 unfold kCv1
 simp only [h]
 rfl
theorem dictT_ok {ps : List (PyData × PyData)} (h : xs.mapM pairD = some ps) (hl : ps.length < 4000) : gDictT [.tup xs] s = .ok (.ref s.length) (s ++ [.dct (fillD ps)]) := by
 unfold gDictT
 simp only [h]
 exact if_pos hl
theorem mul_tup (h1 : -1000 < i) (h2 : i < 1000) (h3 : xs.length < 1000) (h4 : xs ≠ []) {m : Bool} : gMulL m (.tup xs) (.int i) s = .ok (.tup (List.replicate i.toNat xs).flatten) s := by
 show gMulT (.tup xs) (.int i) s = _
 exact if_pos ⟨h1, h2, h3, h4⟩
theorem mul_lst (h1 : -1000 < i) (h2 : i < 1000) (h3 : xs.length < 1000) : gMulL false (.lst xs) (.int i) s = .ok (.lst (List.replicate i.toNat xs).flatten) s := by
 show (if -1000 < i /\ i < 1000 /\ (xs.map D.da).length < 1000 then newL false (List.replicate i.toNat (xs.map D.da)).flatten s else .bad) = _
 rw [if_pos ⟨h1, h2, by rw [List.length_map]; exact h3⟩]
 have e : (List.replicate i.toNat (xs.map D.da)).flatten = (List.replicate i.toNat xs).flatten.map D.da := by
  rw [List.map_flatten, List.map_replicate]
 rw [e]
 exact e_newF
theorem listR_ok (h1 : 0 <= j) (h2 : j < 4000) : gListR false [.int j] s = .ok (.lst ((List.range j.toNat).map fun i : Nat => PyData.int (i : Int))) s := by
 show (if 0 <= j /\ j < 4000 then newL false ((List.range j.toNat).map fun i : Nat => D.int (i : Int)) s else .bad) = _
 rw [if_pos ⟨h1, h2⟩]
 have e : (List.range j.toNat).map (fun i : Nat => D.int (i : Int)) = ((List.range j.toNat).map fun i : Nat => PyData.int (i : Int)).map D.da := by rw [List.map_map]; rfl
 rw [e]
 exact e_newF
end
end PF
namespace Ln
open PySem L2 PF
noncomputable def top (i : Nat) : Stmt := PySem.Challenge.pw_mannerports_k07_what_parts_let.main.body.getD i (.Pass ⟨0, 0, 0, 0⟩)
noncomputable abbrev s_ports_of : Stmt := top 2
noncomputable abbrev s_both_lets : Stmt := top 4
noncomputable abbrev s_only_lets : Stmt := top 5
noncomputable abbrev s_loose_lets : Stmt := top 6
noncomputable abbrev s_drain_lets : Stmt := top 7
noncomputable abbrev s_either_lets : Stmt := top 8
noncomputable abbrev s_place_lets : Stmt := top 9
noncomputable abbrev s_last_lets : Stmt := top 10
noncomputable abbrev s_copy_lets : Stmt := top 11
noncomputable abbrev s_merge_lets : Stmt := top 12
noncomputable abbrev s_lets : Stmt := top 14
noncomputable abbrev s_held_behind : Stmt := top 15
noncomputable abbrev s_held_then : Stmt := top 16
noncomputable abbrev s_passing_at : Stmt := top 17
noncomputable abbrev s__law_feed : Stmt := top 19
noncomputable abbrev s__law_draw : Stmt := top 20
noncomputable abbrev s__law_shuffled : Stmt := top 21
noncomputable abbrev s__law_ports : Stmt := top 22
noncomputable abbrev s__law_part : Stmt := top 23
noncomputable abbrev s__law_part_ports : Stmt := top 24
noncomputable abbrev s__law_alone : Stmt := top 25
noncomputable abbrev s__law_allowed : Stmt := top 26
noncomputable abbrev s__law_behind : Stmt := top 27
noncomputable abbrev s__law_moment : Stmt := top 28
noncomputable abbrev s__law_rows : Stmt := top 29
noncomputable abbrev s__law_right : Stmt := top 30
noncomputable abbrev s_law : Stmt := top 31
structure Txt0 (K : PySem.W.Frag) (mg : Str -> Option Value) : Prop where
 h_ports_of : Has K mg "ports_of" s_ports_of ["part"]
 h_both_lets : Has K mg "both_lets" s_both_lets ["part", "held", "passing"]
 h_only_lets : Has K mg "only_lets" s_only_lets ["part", "held", "passing"]
 h_loose_lets : Has K mg "loose_lets" s_loose_lets ["part", "held", "passing"]
 h_drain_lets : Has K mg "drain_lets" s_drain_lets ["part", "held", "passing"]
 h_either_lets : Has K mg "either_lets" s_either_lets ["part", "held", "passing"]
 h_place_lets : Has K mg "place_lets" s_place_lets ["part", "held", "passing"]
 h_last_lets : Has K mg "last_lets" s_last_lets ["part", "held", "passing"]
 h_copy_lets : Has K mg "copy_lets" s_copy_lets ["part", "held", "passing"]
 h_merge_lets : Has K mg "merge_lets" s_merge_lets ["part", "held", "passing"]
 h_lets : Has K mg "lets" s_lets ["part", "held", "moment"]
 h_held_behind : Has K mg "held_behind" s_held_behind ["part", "held", "moment"]
 h_held_then : Has K mg "held_then" s_held_then ["part", "held", "came", "went"]
 h_passing_at : Has K mg "passing_at" s_passing_at ["part", "moment"]
 h__law_feed : Has K mg "_law_feed" s__law_feed ["_law_script"]
 h__law_draw : Has K mg "_law_draw" s__law_draw ["_law_feed_here", "_law_many"]
 h__law_shuffled : Has K mg "_law_shuffled" s__law_shuffled ["_law_feed_here", "_law_some"]
 h__law_ports : Has K mg "_law_ports" s__law_ports ["_law_feed_here", "_law_many"]
 h__law_part : Has K mg "_law_part" s__law_part ["_law_feed_here", "_law_things", "_law_ports_here"]
 h__law_part_ports : Has K mg "_law_part_ports" s__law_part_ports ["_law_part_here"]
 h__law_alone : Has K mg "_law_alone" s__law_alone ["_law_part_here", "_law_held", "_law_x"]
 h__law_allowed : Has K mg "_law_allowed" s__law_allowed ["_law_things", "_law_part_here", "_law_held"]
 h__law_behind : Has K mg "_law_behind" s__law_behind ["_law_part_here", "_law_held", "_law_told"]
 h__law_moment : Has K mg "_law_moment" s__law_moment ["_law_ports_here", "_law_row", "_law_more"]
 h__law_rows : Has K mg "_law_rows" s__law_rows ["_law_feed_here", "_law_things", "_law_part_here", "_law_held"]
 h__law_right : Has K mg "_law_right" s__law_right ["_law_feed_here", "_law_things", "_law_part_here", "_law_held"]
 h_law : Has K mg "law" s_law ["_law_script"]
 c_HOLDING : ConT K mg "HOLDING" [.str "place", .str "last"]
 c_MANNERS : ∃ d, mg "MANNERS" = some (.ref d) /\ TabF K d [("both", "both_lets"), ("only", "only_lets"), ("loose", "loose_lets"), ("drain", "drain_lets"), ("either", "either_lets"), ("place", "place_lets"), ("last", "last_lets"), ("copy", "copy_lets"), ("merge", "merge_lets")]
 g_both_lets : ∀ f : Addr, PySem.W.nsIn K mainGlobals "both_lets" = some (some (.ref f)) -> mg "both_lets" = some (.ref f)
 g_only_lets : ∀ f : Addr, PySem.W.nsIn K mainGlobals "only_lets" = some (some (.ref f)) -> mg "only_lets" = some (.ref f)
 g_loose_lets : ∀ f : Addr, PySem.W.nsIn K mainGlobals "loose_lets" = some (some (.ref f)) -> mg "loose_lets" = some (.ref f)
 g_drain_lets : ∀ f : Addr, PySem.W.nsIn K mainGlobals "drain_lets" = some (some (.ref f)) -> mg "drain_lets" = some (.ref f)
 g_either_lets : ∀ f : Addr, PySem.W.nsIn K mainGlobals "either_lets" = some (some (.ref f)) -> mg "either_lets" = some (.ref f)
 g_place_lets : ∀ f : Addr, PySem.W.nsIn K mainGlobals "place_lets" = some (some (.ref f)) -> mg "place_lets" = some (.ref f)
 g_last_lets : ∀ f : Addr, PySem.W.nsIn K mainGlobals "last_lets" = some (some (.ref f)) -> mg "last_lets" = some (.ref f)
 g_copy_lets : ∀ f : Addr, PySem.W.nsIn K mainGlobals "copy_lets" = some (some (.ref f)) -> mg "copy_lets" = some (.ref f)
 g_merge_lets : ∀ f : Addr, PySem.W.nsIn K mainGlobals "merge_lets" = some (some (.ref f)) -> mg "merge_lets" = some (.ref f)
 n_len : mg "len" = none
 n_min : mg "min" = none
 n_repr : mg "repr" = none
 n_sorted : mg "sorted" = none
 n_list : mg "list" = none
 n_tuple : mg "tuple" = none
 n_dict : mg "dict" = none
 n_range : mg "range" = none
 n_int : mg "int" = none
 n_all : mg "all" = none
 n_zip : mg "zip" = none
end Ln
namespace Ln
open PySem L2 PF
noncomputable def Bports_of : FS :=
  (fSeq (fIfS (fTest (fOp gEq (fOp gIx (fVar 0) (fC (.da (.int 0)))) (fC (.da (.str "copy"))))) (fRet (fOp (gAdd false) (fTup (fCons (fOp gIx (fVar 0) (fC (.da (.int 1)))) fNil)) (fOp gIx (fVar 0) (fC (.da (.int 2)))))) fNext)
  (fSeq (fIfS (fTest (fOp gEq (fOp gIx (fVar 0) (fC (.da (.int 0)))) (fC (.da (.str "merge"))))) (fRet (fOp (gAdd false) (fOp gIx (fVar 0) (fC (.da (.int 1)))) (fTup (fCons (fOp gIx (fVar 0) (fC (.da (.int 2)))) fNil)))) fNext)
  (fSeq (fIfS (fTest (fOp gEq (fOp gIx (fVar 0) (fC (.da (.int 0)))) (fC (.da (.str "net"))))) (fRet (fOp gIx (fVar 0) (fC (.da (.int 2))))) fNext)
  (fRet (fSl false (fVar 0) (fSome (fC (.da (.int 1)))) (fSome (fC (.da (.int 3)))))))))
noncomputable def Fports_of : FF := bodyF 1 Bports_of
theorem eports_of {a0 : D} {s : S} : Fports_of [a0] s = (Bports_of [some a0] s).bind kBody := rfl
theorem scports_of : FnScope ["part"] ["part"] (defScope s_ports_of) := ⟨rfl, rfl, rfl, by decide +kernel, rfl, by decide +kernel, by decide +kernel⟩
section
variable {P : Program} {w : World} {K : PySem.W.Frag} {mg : Str -> Option Value} {base : Heap}
theorem okports_of (T : Txt0 K mg) : CalF P w K mg base "ports_of" 1 1 Fports_of := by
 exact calF (k := 0) T.h_ports_of scports_of rfl rfl (fun f cdv A outer s H E hr =>
   (rss_cons (rs_if (rt_cmp (o_eq (u64 hr)) (re_ix (re_var 0) re_int) re_str) (rss_one (rs_ret (re_op (o_add false) (re_tup (ra_cons (re_ix (re_var 0) re_int) ra_nil)) (re_ix (re_var 0) re_int)))) rss_nil)
   (rss_cons (rs_if (rt_cmp (o_eq (u64 hr)) (re_ix (re_var 0) re_int) re_str) (rss_one (rs_ret (re_op (o_add false) (re_ix (re_var 0) re_int) (re_tup (ra_cons (re_ix (re_var 0) re_int) ra_nil))))) rss_nil)
   (rss_cons (rs_if (rt_cmp (o_eq (u64 hr)) (re_ix (re_var 0) re_int) re_str) (rss_one (rs_ret (re_ix (re_var 0) re_int))) rss_nil)
   (rss_one (rs_ret (re_slice false (re_var 0) (ro_some re_int) (ro_some re_int))))))))
end
end Ln
namespace Ln
open PySem L2 PF
noncomputable def Bboth_lets : FS :=
  (fRet (fOp gEq (fOp gIx (fVar 2) (fC (.da (.int 0)))) (fOp gIx (fVar 2) (fC (.da (.int 1))))))
noncomputable def Fboth_lets : FF := bodyF 3 Bboth_lets
theorem eboth_lets {a0 a1 a2 : D} {s : S} : Fboth_lets [a0, a1, a2] s = (Bboth_lets [some a0, some a1, some a2] s).bind kBody := rfl
theorem scboth_lets : FnScope ["part", "held", "passing"] ["part", "held", "passing"] (defScope s_both_lets) := ⟨rfl, rfl, rfl, by decide +kernel, rfl, by decide +kernel, by decide +kernel⟩
section
variable {P : Program} {w : World} {K : PySem.W.Frag} {mg : Str -> Option Value} {base : Heap}
theorem okboth_lets (T : Txt0 K mg) : CalF P w K mg base "both_lets" 1 3 Fboth_lets := by
 exact calF (k := 0) T.h_both_lets scboth_lets rfl rfl (fun f cdv A outer s H E hr =>
   (rss_one (rs_ret (re_cmp (o_eq (u64 hr)) (re_ix (re_var 2) re_int) (re_ix (re_var 2) re_int)))))
end
end Ln
namespace Ln
open PySem L2 PF
noncomputable def Bonly_lets : FS :=
  (fRet (fAnd (fOp gEq (fOp gIx (fVar 2) (fC (.da (.int 0)))) (fOp gIx (fVar 2) (fC (.da (.int 1))))) (fOr (fOp gIs (fOp gIx (fVar 2) (fC (.da (.int 0)))) (fC (.da (.none)))) (fOp gIn (fOp gIx (fVar 2) (fC (.da (.int 0)))) (fOp gIx (fVar 0) (fC (.da (.int 3))))))))
noncomputable def Fonly_lets : FF := bodyF 3 Bonly_lets
theorem eonly_lets {a0 a1 a2 : D} {s : S} : Fonly_lets [a0, a1, a2] s = (Bonly_lets [some a0, some a1, some a2] s).bind kBody := rfl
theorem sconly_lets : FnScope ["part", "held", "passing"] ["part", "held", "passing"] (defScope s_only_lets) := ⟨rfl, rfl, rfl, by decide +kernel, rfl, by decide +kernel, by decide +kernel⟩
section
variable {P : Program} {w : World} {K : PySem.W.Frag} {mg : Str -> Option Value} {base : Heap}
theorem okonly_lets (T : Txt0 K mg) : CalF P w K mg base "only_lets" 1 3 Fonly_lets := by
 exact calF (k := 0) T.h_only_lets sconly_lets rfl rfl (fun f cdv A outer s H E hr =>
   (rss_one (rs_ret (re_and (re_cmp (o_eq (u64 hr)) (re_ix (re_var 2) re_int) (re_ix (re_var 2) re_int)) (re_one (re_or (re_cmp o_is (re_ix (re_var 2) re_int) re_non) (re_one (re_cmp (o_in (u65 hr)) (re_ix (re_var 2) re_int) (re_ix (re_var 0) re_int)))))))))
end
end Ln
namespace Ln
open PySem L2 PF
noncomputable def Bloose_lets : FS :=
  (fRet (fOr (fOp gIs (fOp gIx (fVar 2) (fC (.da (.int 1)))) (fC (.da (.none)))) (fOp gEq (fOp gIx (fVar 2) (fC (.da (.int 0)))) (fOp gIx (fVar 2) (fC (.da (.int 1)))))))
noncomputable def Floose_lets : FF := bodyF 3 Bloose_lets
theorem eloose_lets {a0 a1 a2 : D} {s : S} : Floose_lets [a0, a1, a2] s = (Bloose_lets [some a0, some a1, some a2] s).bind kBody := rfl
theorem scloose_lets : FnScope ["part", "held", "passing"] ["part", "held", "passing"] (defScope s_loose_lets) := ⟨rfl, rfl, rfl, by decide +kernel, rfl, by decide +kernel, by decide +kernel⟩
section
variable {P : Program} {w : World} {K : PySem.W.Frag} {mg : Str -> Option Value} {base : Heap}
theorem okloose_lets (T : Txt0 K mg) : CalF P w K mg base "loose_lets" 1 3 Floose_lets := by
 exact calF (k := 0) T.h_loose_lets scloose_lets rfl rfl (fun f cdv A outer s H E hr =>
   (rss_one (rs_ret (re_or (re_cmp o_is (re_ix (re_var 2) re_int) re_non) (re_one (re_cmp (o_eq (u64 hr)) (re_ix (re_var 2) re_int) (re_ix (re_var 2) re_int)))))))
end
end Ln
namespace Ln
open PySem L2 PF
noncomputable def Bdrain_lets : FS :=
  (fRet (fOp gEq (fOp gIs (fOp gIx (fVar 2) (fC (.da (.int 0)))) (fC (.da (.none)))) (fOp gIs (fOp gIx (fVar 2) (fC (.da (.int 1)))) (fC (.da (.none))))))
noncomputable def Fdrain_lets : FF := bodyF 3 Bdrain_lets
theorem edrain_lets {a0 a1 a2 : D} {s : S} : Fdrain_lets [a0, a1, a2] s = (Bdrain_lets [some a0, some a1, some a2] s).bind kBody := rfl
theorem scdrain_lets : FnScope ["part", "held", "passing"] ["part", "held", "passing"] (defScope s_drain_lets) := ⟨rfl, rfl, rfl, by decide +kernel, rfl, by decide +kernel, by decide +kernel⟩
section
variable {P : Program} {w : World} {K : PySem.W.Frag} {mg : Str -> Option Value} {base : Heap}
theorem okdrain_lets (T : Txt0 K mg) : CalF P w K mg base "drain_lets" 1 3 Fdrain_lets := by
 exact calF (k := 0) T.h_drain_lets scdrain_lets rfl rfl (fun f cdv A outer s H E hr =>
   (rss_one (rs_ret (re_cmp (o_eq (u64 hr)) (re_cmp o_is (re_ix (re_var 2) re_int) re_non) (re_cmp o_is (re_ix (re_var 2) re_int) re_non)))))
end
end Ln
namespace Ln
open PySem L2 PF
noncomputable def Beither_lets : FS :=
  (fRet (fOr (fOp gIs (fOp gIx (fVar 2) (fC (.da (.int 0)))) (fC (.da (.none)))) (fOp gIs (fOp gIx (fVar 2) (fC (.da (.int 1)))) (fC (.da (.none))))))
noncomputable def Feither_lets : FF := bodyF 3 Beither_lets
theorem eeither_lets {a0 a1 a2 : D} {s : S} : Feither_lets [a0, a1, a2] s = (Beither_lets [some a0, some a1, some a2] s).bind kBody := rfl
theorem sceither_lets : FnScope ["part", "held", "passing"] ["part", "held", "passing"] (defScope s_either_lets) := ⟨rfl, rfl, rfl, by decide +kernel, rfl, by decide +kernel, by decide +kernel⟩
section
variable {P : Program} {w : World} {K : PySem.W.Frag} {mg : Str -> Option Value} {base : Heap}
theorem okeither_lets (T : Txt0 K mg) : CalF P w K mg base "either_lets" 1 3 Feither_lets := by
 exact calF (k := 0) T.h_either_lets sceither_lets rfl rfl (fun f cdv A outer s H E hr =>
   (rss_one (rs_ret (re_or (re_cmp o_is (re_ix (re_var 2) re_int) re_non) (re_one (re_cmp o_is (re_ix (re_var 2) re_int) re_non))))))
end
end Ln
namespace Ln
open PySem L2 PF
noncomputable def Bplace_lets : FS :=
  (fSeq (fAsg (.t2 (.nm 3) (.nm 4)) (fVar 2))
  (fSeq (fIfS (fTest (fOp gIs (fVar 1) (fC (.da (.none))))) (fRet (fOp gIs (fVar 4) (fC (.da (.none))))) fNext)
  (fRet (fAnd (fOp gIs (fVar 3) (fC (.da (.none)))) (fOr (fOp gIs (fVar 4) (fC (.da (.none)))) (fOp gEq (fVar 4) (fVar 1)))))))
noncomputable def Fplace_lets : FF := bodyF 5 Bplace_lets
theorem eplace_lets {a0 a1 a2 : D} {s : S} : Fplace_lets [a0, a1, a2] s = (Bplace_lets [some a0, some a1, some a2, none, none] s).bind kBody := rfl
theorem scplace_lets : FnScope ["part", "held", "passing", "came", "went"] ["part", "held", "passing"] (defScope s_place_lets) := ⟨rfl, rfl, rfl, by decide +kernel, rfl, by decide +kernel, by decide +kernel⟩
section
variable {P : Program} {w : World} {K : PySem.W.Frag} {mg : Str -> Option Value} {base : Heap}
theorem okplace_lets (T : Txt0 K mg) : CalF P w K mg base "place_lets" 1 3 Fplace_lets := by
 exact calF (k := 0) T.h_place_lets scplace_lets rfl rfl (fun f cdv A outer s H E hr =>
   (rss_cons (rs_asg (re_var 2) (rg_t2 rfl (rg_name (i := 3) scplace_lets.nd rfl (Or.inl rfl)) (rg_name (i := 4) scplace_lets.nd rfl (Or.inl rfl))))
   (rss_cons (rs_if (rt_cmp o_is (re_var 1) re_non) (rss_one (rs_ret (re_cmp o_is (re_var 4) re_non))) rss_nil)
   (rss_one (rs_ret (re_and (re_cmp o_is (re_var 3) re_non) (re_one (re_or (re_cmp o_is (re_var 4) re_non) (re_one (re_cmp (o_eq (u64 hr)) (re_var 4) (re_var 1)))))))))))
end
end Ln
namespace Ln
open PySem L2 PF
noncomputable def Blast_lets : FS :=
  (fRet (fOr (fOp gIs (fOp gIx (fVar 2) (fC (.da (.int 1)))) (fC (.da (.none)))) (fOp gEq (fOp gIx (fVar 2) (fC (.da (.int 1)))) (fVar 1))))
noncomputable def Flast_lets : FF := bodyF 3 Blast_lets
theorem elast_lets {a0 a1 a2 : D} {s : S} : Flast_lets [a0, a1, a2] s = (Blast_lets [some a0, some a1, some a2] s).bind kBody := rfl
theorem sclast_lets : FnScope ["part", "held", "passing"] ["part", "held", "passing"] (defScope s_last_lets) := ⟨rfl, rfl, rfl, by decide +kernel, rfl, by decide +kernel, by decide +kernel⟩
section
variable {P : Program} {w : World} {K : PySem.W.Frag} {mg : Str -> Option Value} {base : Heap}
theorem oklast_lets (T : Txt0 K mg) : CalF P w K mg base "last_lets" 1 3 Flast_lets := by
 exact calF (k := 0) T.h_last_lets sclast_lets rfl rfl (fun f cdv A outer s H E hr =>
   (rss_one (rs_ret (re_or (re_cmp o_is (re_ix (re_var 2) re_int) re_non) (re_one (re_cmp (o_eq (u64 hr)) (re_ix (re_var 2) re_int) (re_var 1)))))))
end
end Ln
namespace Ln
open PySem L2 PF
noncomputable def Bcopy_lets : FS :=
  (fRet (fCB gAll (fCons (fLc false [2] 1 (fIt (fVar 2)) (.nm 0) fYes (fOp gEq (fVar 0) (fOp gIx (fVar 1) (fC (.da (.int 0)))))) fNil)))
noncomputable def Fcopy_lets : FF := bodyF 3 Bcopy_lets
theorem ecopy_lets {a0 a1 a2 : D} {s : S} : Fcopy_lets [a0, a1, a2] s = (Bcopy_lets [some a0, some a1, some a2] s).bind kBody := rfl
theorem sccopy_lets : FnScope ["part", "held", "passing"] ["part", "held", "passing"] (defScope s_copy_lets) := ⟨rfl, rfl, rfl, by decide +kernel, rfl, by decide +kernel, by decide +kernel⟩
section
variable {P : Program} {w : World} {K : PySem.W.Frag} {mg : Str -> Option Value} {base : Heap}
theorem okcopy_lets (T : Txt0 K mg) : CalF P w K mg base "copy_lets" 1 3 Fcopy_lets := by
 exact calF (k := 0) T.h_copy_lets sccopy_lets rfl rfl (fun f cdv A outer s H E hr =>
   (rss_one (rs_ret (re_cb (c_all rfl) T.n_all b_all (ra_cons (re_lc false (own := ["thing"]) (caps := ["passing"]) (js := [2]) rfl rfl rfl rfl rfl (⟨⟨rfl, Or.inr (Or.inl rfl), rfl, rfl⟩, trivial⟩) rfl (ri_any (re_var 2)) (fun _ _ _ _ => (rg_name (i := 0) (show (["thing", "passing"] : List Str).Nodup by decide +kernel) rfl (Or.inl rfl) (Or.inr rfl))) (fun _ _ _ _ => rifs_nil) (fun _ _ _ _ => (re_cmp (o_eq (u64 hr)) (re_var 0) (re_ix (re_var 1) re_int)))) ra_nil)))))
end
end Ln
namespace Ln
open PySem L2 PF
noncomputable def Bmerge_lets : FS :=
  (fSeq (fSet 3 (fOp gIx (fVar 2) (fNeg (fC (.da (.int 1))))))
  (fSeq (fSet 4 (fLc false [] 1 (fIt (fSl false (fVar 2) fNo (fSome (fNeg (fC (.da (.int 1))))))) (.nm 0) (fTest (fOp gIsNot (fVar 0) (fC (.da (.none))))) (fVar 0)))
  (fRet (fOp gEq (fVar 4) (fIf (fTest (fOp gIs (fVar 3) (fC (.da (.none))))) (fLst false fNil) (fLst false (fCons (fVar 3) fNil)))))))
noncomputable def Fmerge_lets : FF := bodyF 5 Bmerge_lets
theorem emerge_lets {a0 a1 a2 : D} {s : S} : Fmerge_lets [a0, a1, a2] s = (Bmerge_lets [some a0, some a1, some a2, none, none] s).bind kBody := rfl
theorem scmerge_lets : FnScope ["part", "held", "passing", "went", "came"] ["part", "held", "passing"] (defScope s_merge_lets) := ⟨rfl, rfl, rfl, by decide +kernel, rfl, by decide +kernel, by decide +kernel⟩
section
variable {P : Program} {w : World} {K : PySem.W.Frag} {mg : Str -> Option Value} {base : Heap}
theorem okmerge_lets (T : Txt0 K mg) : CalF P w K mg base "merge_lets" 1 3 Fmerge_lets := by
 exact calF (k := 0) T.h_merge_lets scmerge_lets rfl rfl (fun f cdv A outer s H E hr =>
   (rss_cons (rs_set (i := 3) scmerge_lets.nd rfl (Or.inl rfl) (re_ix (re_var 2) (re_neg re_int)))
   (rss_cons (rs_setLc false (own := ["thing"]) (caps := []) (js := []) (i := 4) rfl scmerge_lets.nd rfl rfl rfl rfl rfl rfl rfl (trivial) rfl (ri_any (re_slice false (re_var 2) ro_none (ro_some (re_neg re_int)))) (fun _ _ _ _ => (rg_name (i := 0) (show (["thing"] : List Str).Nodup by decide +kernel) rfl (Or.inl rfl) (Or.inr rfl))) (fun _ _ _ _ => (rifs_one (rt_cmp o_isnot (re_var 0) re_non))) (fun _ _ _ _ => (re_var 0)))
   (rss_one (rs_ret (re_cmp (o_eq (u64 hr)) (re_var 4) (re_if (rt_cmp o_is (re_var 3) re_non) (re_lst false ra_nil) (re_lst false (ra_cons (re_var 3) ra_nil)))))))))
end
end Ln
namespace Ln
open PySem L2 PF
noncomputable def Bpassing_at : FS :=
  (fSeq (fSet 2 (fCB gDictT (fCons (fVar 1) fNil)))
  (fRet (fLc false [2] 1 (fIt (fCall 1 Fports_of (fCons (fVar 0) fNil))) (.nm 0) fYes (fMd gDget (fVar 1) (fCons (fVar 0) fNil)))))
noncomputable def Fpassing_at : FF := bodyF 3 Bpassing_at
theorem epassing_at {a0 a1 : D} {s : S} : Fpassing_at [a0, a1] s = (Bpassing_at [some a0, some a1, none] s).bind kBody := rfl
theorem scpassing_at : FnScope ["part", "moment", "things"] ["part", "moment"] (defScope s_passing_at) := ⟨rfl, rfl, rfl, by decide +kernel, rfl, by decide +kernel, by decide +kernel⟩
section
variable {P : Program} {w : World} {K : PySem.W.Frag} {mg : Str -> Option Value} {base : Heap}
theorem okpassing_at (T : Txt0 K mg) : CalF P w K mg base "passing_at" 2 2 Fpassing_at := by
 have cports_of := okports_of (P := P) (w := w) (base := base) T
 exact calF (k := 1) T.h_passing_at scpassing_at rfl rfl (fun f cdv A outer s H E hr =>
   (rss_cons (rs_set (i := 2) scpassing_at.nd rfl (Or.inr rfl) (re_ct (c_dictT rfl) T.n_dict b_dict (ra_cons (re_var 1) ra_nil)))
   (rss_one (rs_ret (re_lc false (own := ["port"]) (caps := ["things"]) (js := [2]) rfl rfl rfl rfl rfl (⟨⟨rfl, Or.inr (Or.inl rfl), rfl, rfl⟩, trivial⟩) rfl (ri_any (re_c cports_of (hr.mono (by decide)) (ra_cons (re_var 0) ra_nil))) (fun _ _ _ _ => (rg_name (i := 0) (show (["port", "things"] : List Str).Nodup by decide +kernel) rfl (Or.inl rfl) (Or.inr rfl))) (fun _ _ _ _ => rifs_nil) (fun _ _ _ _ => (re_md PySem.F.slot_dict_get PySem.F.type_dict_get (m_dget (u70 hr)) (re_var 1) (ra_cons (re_var 0) ra_nil))))))))
end
end Ln
namespace Ln
open PySem L2 PF
noncomputable def tbMANNERS (y : Str) : Option (Nat × FF) := if y = "both_lets" then some (3, Fboth_lets) else if y = "only_lets" then some (3, Fonly_lets) else if y = "loose_lets" then some (3, Floose_lets) else if y = "drain_lets" then some (3, Fdrain_lets) else if y = "either_lets" then some (3, Feither_lets) else if y = "place_lets" then some (3, Fplace_lets) else if y = "last_lets" then some (3, Flast_lets) else if y = "copy_lets" then some (3, Fcopy_lets) else if y = "merge_lets" then some (3, Fmerge_lets) else none
theorem cvMANNERS {X : Cx} (T : Txt0 X.K X.mg) (hr : Room 1 X.A) : CalV X tbMANNERS := ⟨fun y n F e => by
 unfold tbMANNERS at e
 by_cases h : y = "both_lets"
 ·rw [if_pos h] at e
  cases e
  subst h
  exact ⟨1, okboth_lets T, hr.mono (by decide), T.g_both_lets⟩
 rw [if_neg h] at e
 clear h
 by_cases h : y = "only_lets"
 ·rw [if_pos h] at e
  cases e
  subst h
  exact ⟨1, okonly_lets T, hr.mono (by decide), T.g_only_lets⟩
 rw [if_neg h] at e
 clear h
 by_cases h : y = "loose_lets"
 ·rw [if_pos h] at e
  cases e
  subst h
  exact ⟨1, okloose_lets T, hr.mono (by decide), T.g_loose_lets⟩
 rw [if_neg h] at e
 clear h
 by_cases h : y = "drain_lets"
 ·rw [if_pos h] at e
  cases e
  subst h
  exact ⟨1, okdrain_lets T, hr.mono (by decide), T.g_drain_lets⟩
 rw [if_neg h] at e
 clear h
 by_cases h : y = "either_lets"
 ·rw [if_pos h] at e
  cases e
  subst h
  exact ⟨1, okeither_lets T, hr.mono (by decide), T.g_either_lets⟩
 rw [if_neg h] at e
 clear h
 by_cases h : y = "place_lets"
 ·rw [if_pos h] at e
  cases e
  subst h
  exact ⟨1, okplace_lets T, hr.mono (by decide), T.g_place_lets⟩
 rw [if_neg h] at e
 clear h
 by_cases h : y = "last_lets"
 ·rw [if_pos h] at e
  cases e
  subst h
  exact ⟨1, oklast_lets T, hr.mono (by decide), T.g_last_lets⟩
 rw [if_neg h] at e
 clear h
 by_cases h : y = "copy_lets"
 ·rw [if_pos h] at e
  cases e
  subst h
  exact ⟨1, okcopy_lets T, hr.mono (by decide), T.g_copy_lets⟩
 rw [if_neg h] at e
 clear h
 by_cases h : y = "merge_lets"
 ·rw [if_pos h] at e
  cases e
  subst h
  exact ⟨1, okmerge_lets T, hr.mono (by decide), T.g_merge_lets⟩
 rw [if_neg h] at e
 clear h
 cases e⟩
end Ln
namespace Ln
open PySem L2 PF
noncomputable def Blets : FS :=
  (fSeq (fSet 3 (fOp gIxF (fC (.tabF [("both", "both_lets"), ("only", "only_lets"), ("loose", "loose_lets"), ("drain", "drain_lets"), ("either", "either_lets"), ("place", "place_lets"), ("last", "last_lets"), ("copy", "copy_lets"), ("merge", "merge_lets")])) (fOp gIx (fVar 0) (fC (.da (.int 0))))))
  (fRet (fCallV tbMANNERS (fVar 3) (fCons (fVar 0) (fCons (fVar 1) (fCons (fCall 2 Fpassing_at (fCons (fVar 0) (fCons (fVar 2) fNil))) fNil))))))
noncomputable def Flets : FF := bodyF 4 Blets
theorem elets {a0 a1 a2 : D} {s : S} : Flets [a0, a1, a2] s = (Blets [some a0, some a1, some a2, none] s).bind kBody := rfl
theorem sclets : FnScope ["part", "held", "moment", "manner"] ["part", "held", "moment"] (defScope s_lets) := ⟨rfl, rfl, rfl, by decide +kernel, rfl, by decide +kernel, by decide +kernel⟩
section
variable {P : Program} {w : World} {K : PySem.W.Frag} {mg : Str -> Option Value} {base : Heap}
theorem oklets (T : Txt0 K mg) : CalF P w K mg base "lets" 3 3 Flets := by
 have cboth_lets := okboth_lets (P := P) (w := w) (base := base) T
 have conly_lets := okonly_lets (P := P) (w := w) (base := base) T
 have cloose_lets := okloose_lets (P := P) (w := w) (base := base) T
 have cdrain_lets := okdrain_lets (P := P) (w := w) (base := base) T
 have ceither_lets := okeither_lets (P := P) (w := w) (base := base) T
 have cplace_lets := okplace_lets (P := P) (w := w) (base := base) T
 have clast_lets := oklast_lets (P := P) (w := w) (base := base) T
 have ccopy_lets := okcopy_lets (P := P) (w := w) (base := base) T
 have cmerge_lets := okmerge_lets (P := P) (w := w) (base := base) T
 have cpassing_at := okpassing_at (P := P) (w := w) (base := base) T
 exact calF (k := 2) T.h_lets sclets rfl rfl (fun f cdv A outer s H E hr =>
   (rss_cons (rs_set (i := 3) sclets.nd rfl (Or.inl rfl) (re_ix2 ix_tabF (re_tabF [("both", "both_lets"), ("only", "only_lets"), ("loose", "loose_lets"), ("drain", "drain_lets"), ("either", "either_lets"), ("place", "place_lets"), ("last", "last_lets"), ("copy", "copy_lets"), ("merge", "merge_lets")] T.c_MANNERS) (re_ix (re_var 0) re_int)))
   (rss_one (rs_ret (re_cv (cvMANNERS T (hr.mono (by decide))) (re_var 3) (ra_cons (re_var 0) (ra_cons (re_var 1) (ra_cons (re_c cpassing_at (hr.mono (by decide)) (ra_cons (re_var 0) (ra_cons (re_var 2) ra_nil))) ra_nil))))))))
end
end Ln
namespace Ln
open PySem L2 PF
noncomputable def Bheld_then : FS :=
  (fSeq (fIfS (fTest (fOp gIsNot (fVar 2) (fC (.da (.none))))) (fRet (fVar 2)) fNext)
  (fSeq (fIfS (fAndT (fTest (fOp gEq (fOp gIx (fVar 0) (fC (.da (.int 0)))) (fC (.da (.str "place"))))) (fTest (fOp gIsNot (fVar 3) (fC (.da (.none)))))) (fRet (fC (.da (.none)))) fNext)
  (fRet (fVar 1))))
noncomputable def Fheld_then : FF := bodyF 4 Bheld_then
theorem eheld_then {a0 a1 a2 a3 : D} {s : S} : Fheld_then [a0, a1, a2, a3] s = (Bheld_then [some a0, some a1, some a2, some a3] s).bind kBody := rfl
theorem scheld_then : FnScope ["part", "held", "came", "went"] ["part", "held", "came", "went"] (defScope s_held_then) := ⟨rfl, rfl, rfl, by decide +kernel, rfl, by decide +kernel, by decide +kernel⟩
section
variable {P : Program} {w : World} {K : PySem.W.Frag} {mg : Str -> Option Value} {base : Heap}
theorem okheld_then (T : Txt0 K mg) : CalF P w K mg base "held_then" 1 4 Fheld_then := by
 exact calF (k := 0) T.h_held_then scheld_then rfl rfl (fun f cdv A outer s H E hr =>
   (rss_cons (rs_if (rt_cmp o_isnot (re_var 2) re_non) (rss_one (rs_ret (re_var 2))) rss_nil)
   (rss_cons (rs_if (RW.rt (rw_and (rt_cmp (o_eq (u64 hr)) (re_ix (re_var 0) re_int) re_str) (rw_and1 (rt_cmp o_isnot (re_var 3) re_non)))) (rss_one (rs_ret re_non)) rss_nil)
   (rss_one (rs_ret (re_var 1))))))
end
end Ln
namespace Ln
open PySem L2 PF
noncomputable def Bheld_behind : FS :=
  (fSeq (fIfS (fTest (fOp gNotIn (fOp gIx (fVar 0) (fC (.da (.int 0)))) (fC (.con (List.map PyData.str ["place", "last"]))))) (fRet (fC (.da (.none)))) fNext)
  (fSeq (fAsg (.t2 (.nm 3) (.nm 4)) (fCall 2 Fpassing_at (fCons (fVar 0) (fCons (fVar 2) fNil))))
  (fRet (fCall 4 Fheld_then (fCons (fVar 0) (fCons (fVar 1) (fCons (fVar 3) (fCons (fVar 4) fNil))))))))
noncomputable def Fheld_behind : FF := bodyF 5 Bheld_behind
theorem eheld_behind {a0 a1 a2 : D} {s : S} : Fheld_behind [a0, a1, a2] s = (Bheld_behind [some a0, some a1, some a2, none, none] s).bind kBody := rfl
theorem scheld_behind : FnScope ["part", "held", "moment", "came", "went"] ["part", "held", "moment"] (defScope s_held_behind) := ⟨rfl, rfl, rfl, by decide +kernel, rfl, by decide +kernel, by decide +kernel⟩
section
variable {P : Program} {w : World} {K : PySem.W.Frag} {mg : Str -> Option Value} {base : Heap}
theorem okheld_behind (T : Txt0 K mg) : CalF P w K mg base "held_behind" 3 3 Fheld_behind := by
 have cheld_then := okheld_then (P := P) (w := w) (base := base) T
 have cpassing_at := okpassing_at (P := P) (w := w) (base := base) T
 exact calF (k := 2) T.h_held_behind scheld_behind rfl rfl (fun f cdv A outer s H E hr =>
   (rss_cons (rs_if (rt_cmp (o_notin (u65 hr)) (re_ix (re_var 0) re_int) (re_conS ["place", "last"] T.c_HOLDING)) (rss_one (rs_ret re_non)) rss_nil)
   (rss_cons (rs_asg (re_c cpassing_at (hr.mono (by decide)) (ra_cons (re_var 0) (ra_cons (re_var 2) ra_nil))) (rg_t2 rfl (rg_name (i := 3) scheld_behind.nd rfl (Or.inl rfl)) (rg_name (i := 4) scheld_behind.nd rfl (Or.inl rfl))))
   (rss_one (rs_ret (re_c cheld_then (hr.mono (by decide)) (ra_cons (re_var 0) (ra_cons (re_var 1) (ra_cons (re_var 3) (ra_cons (re_var 4) ra_nil))))))))))
end
end Ln
namespace Ln
open PySem L2 PF
noncomputable def B_law_feed : FS :=
  (fRet (fLst true (fCons (fCB (gList false) (fCons (fSl false (fVar 0) fNo (fSome (fC (.da (.int 63))))) fNil)) (fCons (fC (.da (.int 0))) (fCons (fC (.da (.int 0))) (fCons (fC (.da (.int 0))) fNil))))))
noncomputable def F_law_feed : FF := bodyF 1 B_law_feed
theorem e_law_feed {a0 : D} {s : S} : F_law_feed [a0] s = (B_law_feed [some a0] s).bind kBody := rfl
theorem sc_law_feed : FnScope ["_law_script"] ["_law_script"] (defScope s__law_feed) := ⟨rfl, rfl, rfl, by decide +kernel, rfl, by decide +kernel, by decide +kernel⟩
section
variable {P : Program} {w : World} {K : PySem.W.Frag} {mg : Str -> Option Value} {base : Heap}
theorem ok_law_feed (T : Txt0 K mg) : CalF P w K mg base "_law_feed" 1 1 F_law_feed := by
 exact calF (k := 0) T.h__law_feed sc_law_feed rfl rfl (fun f cdv A outer s H E hr =>
   (rss_one (rs_ret (re_lst true (ra_cons (re_ct (c_list false) T.n_list b_list (ra_cons (re_slice false (re_var 0) ro_none (ro_some re_int)) ra_nil)) (ra_cons re_int (ra_cons re_int (ra_cons re_int ra_nil))))))))
end
end Ln
namespace Ln
open PySem L2 PF
noncomputable def B_law_draw : FS :=
  (fSeq (fSetIt (fOp (gAdd false) (fOp gIx (fVar 0) (fC (.da (.int 3)))) (fC (.da (.int 1)))) (fVar 0) (fC (.da (.int 3))))
  (fSeq (fIfS (fTest (fOp gGt (fOp gIx (fVar 0) (fC (.da (.int 2)))) (fC (.da (.int 0))))) (fSeq (fSet 2 (fOp gMod (fOp gIx (fVar 0) (fC (.da (.int 2)))) (fVar 1)))
  (fSeq (fSetIt (fOp gDiv (fOp gIx (fVar 0) (fC (.da (.int 2)))) (fVar 1)) (fVar 0) (fC (.da (.int 2))))
  (fRet (fVar 2)))) fNext)
  (fSeq (fSet 3 (fC (.da (.int 5))))
  (fSeq (fIfS (fTest (fOp gNe (fOp gIx (fVar 0) (fC (.da (.int 0)))) (fLst false fNil))) (fSet 3 (fOp gIx (fOp gIx (fVar 0) (fC (.da (.int 0)))) (fOp gMod (fOp gIx (fVar 0) (fC (.da (.int 1)))) (fCB gLen (fCons (fOp gIx (fVar 0) (fC (.da (.int 0)))) fNil))))) fNext)
  (fSeq (fSetIt (fOp (gAdd false) (fOp gIx (fVar 0) (fC (.da (.int 1)))) (fC (.da (.int 1)))) (fVar 0) (fC (.da (.int 1))))
  (fSeq (fIfS (fAndT (fTest (fOp gGe (fVar 3) (fOp gPow (fC (.da (.int 10))) (fC (.da (.int 18)))))) (fTest (fOp gLe (fOp gIx (fVar 0) (fC (.da (.int 1)))) (fCB gLen (fCons (fOp gIx (fVar 0) (fC (.da (.int 0)))) fNil))))) (fSeq (fSetIt (fOp gDiv (fVar 3) (fVar 1)) (fVar 0) (fC (.da (.int 2))))
  (fRet (fOp gMod (fVar 3) (fVar 1)))) fNext)
  (fSeq (fSet 4 (fOp gMod (fOp gMul (fOp (gAdd false) (fOp gMod (fVar 3) (fC (.da (.int 998244353)))) (fOp gMul (fC (.da (.int 5003))) (fOp gIx (fVar 0) (fC (.da (.int 3)))))) (fC (.da (.int 69621)))) (fC (.da (.int 2147483629)))))
  (fSeq (fSet 4 (fOp gMod (fOp gMul (fOp (gAdd false) (fOp gDiv (fVar 4) (fC (.da (.int 13)))) (fOp gMul (fOp gMul (fC (.da (.int 7919))) (fOp gIx (fVar 0) (fC (.da (.int 3))))) (fOp gIx (fVar 0) (fC (.da (.int 3)))))) (fC (.da (.int 48271)))) (fC (.da (.int 2147483587)))))
  (fRet (fOp gMod (fOp gDiv (fVar 4) (fC (.da (.int 64)))) (fVar 1)))))))))))
noncomputable def F_law_draw : FF := bodyF 5 B_law_draw
theorem e_law_draw {a0 a1 : D} {s : S} : F_law_draw [a0, a1] s = (B_law_draw [some a0, some a1, none, none, none] s).bind kBody := rfl
theorem sc_law_draw : FnScope ["_law_feed_here", "_law_many", "_law_found", "_law_cell", "_law_mixed"] ["_law_feed_here", "_law_many"] (defScope s__law_draw) := ⟨rfl, rfl, rfl, by decide +kernel, rfl, by decide +kernel, by decide +kernel⟩
section
variable {P : Program} {w : World} {K : PySem.W.Frag} {mg : Str -> Option Value} {base : Heap}
theorem ok_law_draw (T : Txt0 K mg) : CalF P w K mg base "_law_draw" 1 2 F_law_draw := by
 exact calF (k := 0) T.h__law_draw sc_law_draw rfl rfl (fun f cdv A outer s H E hr =>
   (rss_cons (rs_sub (re_op (o_add false) (re_ix (re_var 0) re_int) re_int) (re_var 0) re_int)
   (rss_cons (rs_if (rt_cmp o_gt (re_ix (re_var 0) re_int) re_int) (rss_cons (rs_set (i := 2) sc_law_draw.nd rfl (Or.inl rfl) (re_op o_mod (re_ix (re_var 0) re_int) (re_var 1)))
   (rss_cons (rs_sub (re_op o_div (re_ix (re_var 0) re_int) (re_var 1)) (re_var 0) re_int)
   (rss_one (rs_ret (re_var 2))))) rss_nil)
   (rss_cons (rs_set (i := 3) sc_law_draw.nd rfl (Or.inl rfl) re_int)
   (rss_cons (rs_if (rt_cmp (o_ne (u64 hr)) (re_ix (re_var 0) re_int) (re_lst false ra_nil)) (rss_one (rs_set (i := 3) sc_law_draw.nd rfl (Or.inl rfl) (re_ix (re_ix (re_var 0) re_int) (re_op o_mod (re_ix (re_var 0) re_int) (re_cb c_len T.n_len b_len (ra_cons (re_ix (re_var 0) re_int) ra_nil)))))) rss_nil)
   (rss_cons (rs_sub (re_op (o_add false) (re_ix (re_var 0) re_int) re_int) (re_var 0) re_int)
   (rss_cons (rs_if (RW.rt (rw_and (rt_cmp o_ge (re_var 3) (re_op o_pow re_int re_int)) (rw_and1 (rt_cmp o_le (re_ix (re_var 0) re_int) (re_cb c_len T.n_len b_len (ra_cons (re_ix (re_var 0) re_int) ra_nil)))))) (rss_cons (rs_sub (re_op o_div (re_var 3) (re_var 1)) (re_var 0) re_int)
   (rss_one (rs_ret (re_op o_mod (re_var 3) (re_var 1))))) rss_nil)
   (rss_cons (rs_set (i := 4) sc_law_draw.nd rfl (Or.inl rfl) (re_op o_mod (re_op o_mul (re_op (o_add false) (re_op o_mod (re_var 3) re_int) (re_op o_mul re_int (re_ix (re_var 0) re_int))) re_int) re_int))
   (rss_cons (rs_set (i := 4) sc_law_draw.nd rfl (Or.inl rfl) (re_op o_mod (re_op o_mul (re_op (o_add false) (re_op o_div (re_var 4) re_int) (re_op o_mul (re_op o_mul re_int (re_ix (re_var 0) re_int)) (re_ix (re_var 0) re_int))) re_int) re_int))
   (rss_one (rs_ret (re_op o_mod (re_op o_div (re_var 4) re_int) (re_var 1)))))))))))))
end
end Ln
namespace Ln
open PySem L2 PF
noncomputable def B_law_shuffled : FS :=
  (fSeq (fSet 2 (fCB (gList true) (fCons (fVar 1) fNil)))
  (fSeq (fSet 3 (fLst true fNil))
  (fSeq (fFor (fRng (fCons (fCB gLen (fCons (fVar 2) fNil)) fNil)) (.nm 4) (fDrop (fMt gAppend (fVar 3) (fCons (fMt gPopAt (fVar 2) (fCons (fCall 2 F_law_draw (fCons (fVar 0) (fCons (fCB gLen (fCons (fVar 2) fNil)) fNil))) fNil)) fNil))))
  (fRet (fFrz (fVar 3))))))
noncomputable def F_law_shuffled : FF := bodyF 5 B_law_shuffled
theorem e_law_shuffled {a0 a1 : D} {s : S} : F_law_shuffled [a0, a1] s = (B_law_shuffled [some a0, some a1, none, none, none] s).bind kBody := rfl
theorem sc_law_shuffled : FnScope ["_law_feed_here", "_law_some", "_law_left", "_law_found", "_law_k"] ["_law_feed_here", "_law_some"] (defScope s__law_shuffled) := ⟨rfl, rfl, rfl, by decide +kernel, rfl, by decide +kernel, by decide +kernel⟩
section
variable {P : Program} {w : World} {K : PySem.W.Frag} {mg : Str -> Option Value} {base : Heap}
theorem ok_law_shuffled (T : Txt0 K mg) : CalF P w K mg base "_law_shuffled" 2 2 F_law_shuffled := by
 have c_law_draw := ok_law_draw (P := P) (w := w) (base := base) T
 exact calF (k := 1) T.h__law_shuffled sc_law_shuffled rfl rfl (fun f cdv A outer s H E hr =>
   (rss_cons (rs_set (i := 2) sc_law_shuffled.nd rfl (Or.inl rfl) (re_ct (c_list true) T.n_list b_list (ra_cons (re_var 1) ra_nil)))
   (rss_cons (rs_set (i := 3) sc_law_shuffled.nd rfl (Or.inl rfl) (re_lst true ra_nil))
   (rss_cons (rs_for rfl (ri_rng T.n_range (ra_cons (re_cb c_len T.n_len b_len (ra_cons (re_var 2) ra_nil)) ra_nil)) (rg_name (i := 4) sc_law_shuffled.nd rfl (Or.inl rfl)) (rss_one (rs_expr (re_mt PySem.F.slot_list_append PySem.F.type_list_append m_append (re_var 3) (ra_cons (re_mt PySem.F.slot_list_pop PySem.F.type_list_pop m_popAt (re_var 2) (ra_cons (re_c c_law_draw (hr.mono (by decide)) (ra_cons (re_var 0) (ra_cons (re_cb c_len T.n_len b_len (ra_cons (re_var 2) ra_nil)) ra_nil))) ra_nil)) ra_nil)))))
   (rss_one (rs_ret (re_frz (re_var 3))))))))
end
end Ln
namespace Ln
open PySem L2 PF
noncomputable def B_law_ports : FS :=
  (fSeq (fSet 2 (fLst true (fCons (fLst false (fVs (List.map D.da [.str "a", .str "b", .str "c", .str "d", .str "e", .str "f", .str "g", .str "h"]))) (fCons (fLst false (fVs (List.map D.da [.str "net", .str "end", .str "within", .str "place", .str "last", .str "to", .str "a", .str "table"]))) fNil))))
  (fSeq (fDrop (fMt gAppend (fVar 2) (fCons (fLst false (fVs (List.map D.da [.str "a", .str "ab", .str "abc", .str "abcd", .str "b", .str "ba", .str "abcdefgh", .str "abcdefgi"]))) fNil)))
  (fSeq (fDrop (fMt gAppend (fVar 2) (fCons (fLst false (fVs (List.map D.da [.str "zzzzzzzz", .str "z", .str "zz", .str "y", .str "only", .str "onlya", .str "copy", .str "aa"]))) fNil)))
  (fSeq (fSet 3 (fOp gIx (fVar 2) (fCall 2 F_law_draw (fCons (fVar 0) (fCons (fC (.da (.int 4))) fNil)))))
  (fSeq (fSet 4 (fCall 2 F_law_draw (fCons (fVar 0) (fCons (fC (.da (.int 8))) fNil))))
  (fRet (fSl false (fOp (gAdd false) (fSl false (fVar 3) (fSome (fVar 4)) fNo) (fSl false (fVar 3) fNo (fSome (fVar 4)))) fNo (fSome (fVar 1)))))))))
noncomputable def F_law_ports : FF := bodyF 5 B_law_ports
theorem e_law_ports {a0 a1 : D} {s : S} : F_law_ports [a0, a1] s = (B_law_ports [some a0, some a1, none, none, none] s).bind kBody := rfl
theorem sc_law_ports : FnScope ["_law_feed_here", "_law_many", "_law_pools", "_law_pool", "_law_turn"] ["_law_feed_here", "_law_many"] (defScope s__law_ports) := ⟨rfl, rfl, rfl, by decide +kernel, rfl, by decide +kernel, by decide +kernel⟩
section
variable {P : Program} {w : World} {K : PySem.W.Frag} {mg : Str -> Option Value} {base : Heap}
theorem ok_law_ports (T : Txt0 K mg) : CalF P w K mg base "_law_ports" 2 2 F_law_ports := by
 have c_law_draw := ok_law_draw (P := P) (w := w) (base := base) T
 exact calF (k := 1) T.h__law_ports sc_law_ports rfl rfl (fun f cdv A outer s H E hr =>
   (rss_cons (rs_set (i := 2) sc_law_ports.nd rfl (Or.inl rfl) (re_lst true (ra_cons (re_lst false (ra_consts rfl)) (ra_cons (re_lst false (ra_consts rfl)) ra_nil))))
   (rss_cons (rs_expr (re_mt PySem.F.slot_list_append PySem.F.type_list_append m_append (re_var 2) (ra_cons (re_lst false (ra_consts rfl)) ra_nil)))
   (rss_cons (rs_expr (re_mt PySem.F.slot_list_append PySem.F.type_list_append m_append (re_var 2) (ra_cons (re_lst false (ra_consts rfl)) ra_nil)))
   (rss_cons (rs_set (i := 3) sc_law_ports.nd rfl (Or.inl rfl) (re_ix (re_var 2) (re_c c_law_draw (hr.mono (by decide)) (ra_cons (re_var 0) (ra_cons re_int ra_nil)))))
   (rss_cons (rs_set (i := 4) sc_law_ports.nd rfl (Or.inl rfl) (re_c c_law_draw (hr.mono (by decide)) (ra_cons (re_var 0) (ra_cons re_int ra_nil))))
   (rss_one (rs_ret (re_slice false (re_op (o_add false) (re_slice false (re_var 3) (ro_some (re_var 4)) ro_none) (re_slice false (re_var 3) ro_none (ro_some (re_var 4)))) ro_none (ro_some (re_var 1)))))))))))
end
end Ln
namespace Ln
open PySem L2 PF
noncomputable def B_law_part : FS :=
  (fSeq (fSet 3 (fCall 2 F_law_shuffled (fCons (fVar 0) (fCons (fVar 2) fNil))))
  (fSeq (fSet 4 (fOp gIx (fLst false (fVs (List.map D.da [.str "both", .str "loose", .str "place", .str "last", .str "drain", .str "either", .str "only", .str "copy", .str "merge", .str "place"]))) (fCall 2 F_law_draw (fCons (fVar 0) (fCons (fC (.da (.int 10))) fNil)))))
  (fSeq (fIfS (fTest (fOp gIn (fVar 4) (fTup (fVs (List.map D.da [.str "copy", .str "merge"]))))) (fSeq (fSet 5 (fCB gTuple (fCons (fSl false (fVar 3) (fSome (fC (.da (.int 1)))) (fSome (fOp (gAdd false) (fC (.da (.int 2))) (fCall 2 F_law_draw (fCons (fVar 0) (fCons (fCB gMin (fCons (fC (.da (.int 4))) (fCons (fOp gSub (fCB gLen (fCons (fVar 3) fNil)) (fC (.da (.int 1)))) fNil))) fNil)))))) fNil)))
  (fRet (fIf (fTest (fOp gEq (fVar 4) (fC (.da (.str "copy"))))) (fTup (fCons (fVar 4) (fCons (fOp gIx (fVar 3) (fC (.da (.int 0)))) (fCons (fVar 5) fNil)))) (fTup (fCons (fVar 4) (fCons (fVar 5) (fCons (fOp gIx (fVar 3) (fC (.da (.int 0)))) fNil))))))) fNext)
  (fSeq (fIfS (fTest (fOp gIn (fVar 4) (fTup (fVs (List.map D.da [.str "place", .str "last"]))))) (fRet (fTup (fCons (fVar 4) (fCons (fOp gIx (fVar 3) (fC (.da (.int 0)))) (fCons (fOp gIx (fVar 3) (fC (.da (.int 1)))) (fCons (fOp gIx (fLst false (fCons (fC (.da (.none))) (fCons (fC (.da (.none))) (fCons (fC (.da (.int 0))) (fCons (fOp gSub (fVar 1) (fC (.da (.int 1)))) fNil))))) (fCall 2 F_law_draw (fCons (fVar 0) (fCons (fC (.da (.int 4))) fNil)))) fNil)))))) fNext)
  (fSeq (fIfS (fTest (fOp gEq (fVar 4) (fC (.da (.str "only"))))) (fRet (fTup (fCons (fVar 4) (fCons (fOp gIx (fVar 3) (fC (.da (.int 0)))) (fCons (fOp gIx (fVar 3) (fC (.da (.int 1)))) (fCons (fCB gTuple (fCons (fLc false [0] 1 (fRng (fCons (fVar 1) fNil)) (.nm 0) (fTest (fOp gGt (fCall 2 F_law_draw (fCons (fVar 1) (fCons (fC (.da (.int 3))) fNil))) (fC (.da (.int 0))))) (fVar 0)) fNil)) fNil)))))) fNext)
  (fRet (fTup (fCons (fVar 4) (fCons (fOp gIx (fVar 3) (fC (.da (.int 0)))) (fCons (fOp gIx (fVar 3) (fC (.da (.int 1)))) fNil))))))))))
noncomputable def F_law_part : FF := bodyF 6 B_law_part
theorem e_law_part {a0 a1 a2 : D} {s : S} : F_law_part [a0, a1, a2] s = (B_law_part [some a0, some a1, some a2, none, none, none] s).bind kBody := rfl
theorem sc_law_part : FnScope ["_law_feed_here", "_law_things", "_law_ports_here", "_law_some", "_law_word", "_law_many"] ["_law_feed_here", "_law_things", "_law_ports_here"] (defScope s__law_part) := ⟨rfl, rfl, rfl, by decide +kernel, rfl, by decide +kernel, by decide +kernel⟩
section
variable {P : Program} {w : World} {K : PySem.W.Frag} {mg : Str -> Option Value} {base : Heap}
theorem ok_law_part (T : Txt0 K mg) : CalF P w K mg base "_law_part" 3 3 F_law_part := by
 have c_law_draw := ok_law_draw (P := P) (w := w) (base := base) T
 have c_law_shuffled := ok_law_shuffled (P := P) (w := w) (base := base) T
 exact calF (k := 2) T.h__law_part sc_law_part rfl rfl (fun f cdv A outer s H E hr =>
   (rss_cons (rs_set (i := 3) sc_law_part.nd rfl (Or.inl rfl) (re_c c_law_shuffled (hr.mono (by decide)) (ra_cons (re_var 0) (ra_cons (re_var 2) ra_nil))))
   (rss_cons (rs_set (i := 4) sc_law_part.nd rfl (Or.inl rfl) (re_ix (re_lst false (ra_consts rfl)) (re_c c_law_draw (hr.mono (by decide)) (ra_cons (re_var 0) (ra_cons re_int ra_nil)))))
   (rss_cons (rs_if (rt_cmp (o_in (u65 hr)) (re_var 4) (re_tup (ra_consts rfl))) (rss_cons (rs_set (i := 5) sc_law_part.nd rfl (Or.inl rfl) (re_ct c_tuple T.n_tuple b_tuple (ra_cons (re_slice false (re_var 3) (ro_some re_int) (ro_some (re_op (o_add false) re_int (re_c c_law_draw (hr.mono (by decide)) (ra_cons (re_var 0) (ra_cons (re_cb (c_min rfl) T.n_min b_min (ra_cons re_int (ra_cons (re_op o_sub (re_cb c_len T.n_len b_len (ra_cons (re_var 3) ra_nil)) re_int) ra_nil))) ra_nil)))))) ra_nil)))
   (rss_one (rs_ret (re_if (rt_cmp (o_eq (u64 hr)) (re_var 4) re_str) (re_tup (ra_cons (re_var 4) (ra_cons (re_ix (re_var 3) re_int) (ra_cons (re_var 5) ra_nil)))) (re_tup (ra_cons (re_var 4) (ra_cons (re_var 5) (ra_cons (re_ix (re_var 3) re_int) ra_nil)))))))) rss_nil)
   (rss_cons (rs_if (rt_cmp (o_in (u65 hr)) (re_var 4) (re_tup (ra_consts rfl))) (rss_one (rs_ret (re_tup (ra_cons (re_var 4) (ra_cons (re_ix (re_var 3) re_int) (ra_cons (re_ix (re_var 3) re_int) (ra_cons (re_ix (re_lst false (ra_cons re_non (ra_cons re_non (ra_cons re_int (ra_cons (re_op o_sub (re_var 1) re_int) ra_nil))))) (re_c c_law_draw (hr.mono (by decide)) (ra_cons (re_var 0) (ra_cons re_int ra_nil)))) ra_nil))))))) rss_nil)
   (rss_cons (rs_if (rt_cmp (o_eq (u64 hr)) (re_var 4) re_str) (rss_one (rs_ret (re_tup (ra_cons (re_var 4) (ra_cons (re_ix (re_var 3) re_int) (ra_cons (re_ix (re_var 3) re_int) (ra_cons (re_ct c_tuple T.n_tuple b_tuple (ra_cons (re_lc false (own := ["_law_one"]) (caps := ["_law_feed_here"]) (js := [0]) rfl rfl rfl rfl rfl (⟨⟨rfl, Or.inr (Or.inl rfl), rfl, rfl⟩, trivial⟩) rfl (ri_rng T.n_range (ra_cons (re_var 1) ra_nil)) (fun _ _ _ _ => (rg_name (i := 0) (show (["_law_one", "_law_feed_here"] : List Str).Nodup by decide +kernel) rfl (Or.inl rfl) (Or.inr rfl))) (fun _ _ _ _ => (rifs_one (rt_cmp o_gt (re_c c_law_draw (hr.mono (by decide)) (ra_cons (re_var 1) (ra_cons re_int ra_nil))) re_int))) (fun _ _ _ _ => (re_var 0))) ra_nil)) ra_nil))))))) rss_nil)
   (rss_one (rs_ret (re_tup (ra_cons (re_var 4) (ra_cons (re_ix (re_var 3) re_int) (ra_cons (re_ix (re_var 3) re_int) ra_nil))))))))))))
end
end Ln
namespace Ln
open PySem L2 PF
noncomputable def B_law_part_ports : FS :=
  (fSeq (fIfS (fTest (fOp gEq (fOp gIx (fVar 0) (fC (.da (.int 0)))) (fC (.da (.str "net"))))) (fRet (fOp gIx (fVar 0) (fC (.da (.int 2))))) fNext)
  (fSeq (fIfS (fTest (fOp gEq (fOp gIx (fVar 0) (fC (.da (.int 0)))) (fC (.da (.str "copy"))))) (fRet (fOp (gAdd false) (fTup (fCons (fOp gIx (fVar 0) (fC (.da (.int 1)))) fNil)) (fOp gIx (fVar 0) (fC (.da (.int 2)))))) fNext)
  (fRet (fIf (fTest (fOp gEq (fOp gIx (fVar 0) (fC (.da (.int 0)))) (fC (.da (.str "merge"))))) (fOp (gAdd false) (fOp gIx (fVar 0) (fC (.da (.int 1)))) (fTup (fCons (fOp gIx (fVar 0) (fC (.da (.int 2)))) fNil))) (fSl false (fVar 0) (fSome (fC (.da (.int 1)))) (fSome (fC (.da (.int 3)))))))))
noncomputable def F_law_part_ports : FF := bodyF 1 B_law_part_ports
theorem e_law_part_ports {a0 : D} {s : S} : F_law_part_ports [a0] s = (B_law_part_ports [some a0] s).bind kBody := rfl
theorem sc_law_part_ports : FnScope ["_law_part_here"] ["_law_part_here"] (defScope s__law_part_ports) := ⟨rfl, rfl, rfl, by decide +kernel, rfl, by decide +kernel, by decide +kernel⟩
section
variable {P : Program} {w : World} {K : PySem.W.Frag} {mg : Str -> Option Value} {base : Heap}
theorem ok_law_part_ports (T : Txt0 K mg) : CalF P w K mg base "_law_part_ports" 1 1 F_law_part_ports := by
 exact calF (k := 0) T.h__law_part_ports sc_law_part_ports rfl rfl (fun f cdv A outer s H E hr =>
   (rss_cons (rs_if (rt_cmp (o_eq (u64 hr)) (re_ix (re_var 0) re_int) re_str) (rss_one (rs_ret (re_ix (re_var 0) re_int))) rss_nil)
   (rss_cons (rs_if (rt_cmp (o_eq (u64 hr)) (re_ix (re_var 0) re_int) re_str) (rss_one (rs_ret (re_op (o_add false) (re_tup (ra_cons (re_ix (re_var 0) re_int) ra_nil)) (re_ix (re_var 0) re_int)))) rss_nil)
   (rss_one (rs_ret (re_if (rt_cmp (o_eq (u64 hr)) (re_ix (re_var 0) re_int) re_str) (re_op (o_add false) (re_ix (re_var 0) re_int) (re_tup (ra_cons (re_ix (re_var 0) re_int) ra_nil))) (re_slice false (re_var 0) (ro_some re_int) (ro_some re_int))))))))
end
end Ln
namespace Ln
open PySem L2 PF
noncomputable def B_law_alone : FS :=
  (fSeq (fSet 3 (fCB gLen (fCons (fCall 1 F_law_part_ports (fCons (fVar 0) fNil)) fNil)))
  (fSeq (fIfS (fTest (fOp gIn (fOp gIx (fVar 0) (fC (.da (.int 0)))) (fTup (fVs (List.map D.da [.str "both", .str "copy"]))))) (fRet (fLst false (fCons (fOp (gMulL false) (fTup (fCons (fVar 2) fNil)) (fVar 3)) fNil))) fNext)
  (fSeq (fIfS (fTest (fOp gEq (fOp gIx (fVar 0) (fC (.da (.int 0)))) (fC (.da (.str "only"))))) (fRet (fIf (fTest (fOp gIn (fVar 2) (fOp gIx (fVar 0) (fC (.da (.int 3)))))) (fLst false (fCons (fTup (fCons (fVar 2) (fCons (fVar 2) fNil))) fNil)) (fLst false fNil))) fNext)
  (fSeq (fIfS (fTest (fOp gEq (fOp gIx (fVar 0) (fC (.da (.int 0)))) (fC (.da (.str "loose"))))) (fRet (fLst false (fCons (fTup (fCons (fVar 2) (fCons (fC (.da (.none))) fNil))) (fCons (fTup (fCons (fVar 2) (fCons (fVar 2) fNil))) fNil)))) fNext)
  (fSeq (fIfS (fTest (fOp gEq (fOp gIx (fVar 0) (fC (.da (.int 0)))) (fC (.da (.str "either"))))) (fRet (fLst false (fCons (fTup (fCons (fVar 2) (fCons (fC (.da (.none))) fNil))) (fCons (fTup (fCons (fC (.da (.none))) (fCons (fVar 2) fNil))) fNil)))) fNext)
  (fSeq (fIfS (fTest (fOp gEq (fOp gIx (fVar 0) (fC (.da (.int 0)))) (fC (.da (.str "place"))))) (fRet (fIf (fTest (fOp gIs (fVar 1) (fC (.da (.none))))) (fLst false (fCons (fTup (fCons (fVar 2) (fCons (fC (.da (.none))) fNil))) fNil)) (fIf (fTest (fOp gEq (fVar 2) (fVar 1))) (fLst false (fCons (fTup (fCons (fC (.da (.none))) (fCons (fVar 2) fNil))) fNil)) (fLst false fNil)))) fNext)
  (fSeq (fIfS (fTest (fOp gEq (fOp gIx (fVar 0) (fC (.da (.int 0)))) (fC (.da (.str "merge"))))) (fRet (fLc false [2, 3] 1 (fRng (fCons (fOp gSub (fVar 3) (fC (.da (.int 1)))) fNil)) (.nm 0) fYes (fOp (gAdd false) (fOp (gAdd false) (fOp (gAdd false) (fOp (gMulL false) (fTup (fCons (fC (.da (.none))) fNil)) (fVar 0)) (fTup (fCons (fVar 1) fNil))) (fOp (gMulL false) (fTup (fCons (fC (.da (.none))) fNil)) (fOp gSub (fOp gSub (fVar 2) (fC (.da (.int 2)))) (fVar 0)))) (fTup (fCons (fVar 1) fNil))))) fNext)
  (fSeq (fSet 4 (fOp (gAdd false) (fLst false (fCons (fTup (fCons (fVar 2) (fCons (fC (.da (.none))) fNil))) fNil)) (fOp (gMulL false) (fLst false (fCons (fTup (fCons (fVar 2) (fCons (fVar 1) fNil))) fNil)) (fCB gInt (fCons (fOp gIsNot (fVar 1) (fC (.da (.none)))) fNil)))))
  (fRet (fOp (gAdd false) (fVar 4) (fOp (gMulL false) (fLst false (fCons (fTup (fCons (fC (.da (.none))) (fCons (fVar 2) fNil))) fNil)) (fCB gInt (fCons (fOp gEq (fVar 2) (fVar 1)) fNil)))))))))))))
noncomputable def F_law_alone : FF := bodyF 5 B_law_alone
theorem e_law_alone {a0 a1 a2 : D} {s : S} : F_law_alone [a0, a1, a2] s = (B_law_alone [some a0, some a1, some a2, none, none] s).bind kBody := rfl
theorem sc_law_alone : FnScope ["_law_part_here", "_law_held", "_law_x", "_law_many", "_law_rows_here"] ["_law_part_here", "_law_held", "_law_x"] (defScope s__law_alone) := ⟨rfl, rfl, rfl, by decide +kernel, rfl, by decide +kernel, by decide +kernel⟩
section
variable {P : Program} {w : World} {K : PySem.W.Frag} {mg : Str -> Option Value} {base : Heap}
theorem ok_law_alone (T : Txt0 K mg) : CalF P w K mg base "_law_alone" 2 3 F_law_alone := by
 have c_law_part_ports := ok_law_part_ports (P := P) (w := w) (base := base) T
 exact calF (k := 1) T.h__law_alone sc_law_alone rfl rfl (fun f cdv A outer s H E hr =>
   (rss_cons (rs_set (i := 3) sc_law_alone.nd rfl (Or.inr rfl) (re_cb c_len T.n_len b_len (ra_cons (re_c c_law_part_ports (hr.mono (by decide)) (ra_cons (re_var 0) ra_nil)) ra_nil)))
   (rss_cons (rs_if (rt_cmp (o_in (u65 hr)) (re_ix (re_var 0) re_int) (re_tup (ra_consts rfl))) (rss_one (rs_ret (re_lst false (ra_cons (re_op (o_mulL false) (re_tup (ra_cons (re_var 2) ra_nil)) (re_var 3)) ra_nil)))) rss_nil)
   (rss_cons (rs_if (rt_cmp (o_eq (u64 hr)) (re_ix (re_var 0) re_int) re_str) (rss_one (rs_ret (re_if (rt_cmp (o_in (u65 hr)) (re_var 2) (re_ix (re_var 0) re_int)) (re_lst false (ra_cons (re_tup (ra_cons (re_var 2) (ra_cons (re_var 2) ra_nil))) ra_nil)) (re_lst false ra_nil)))) rss_nil)
   (rss_cons (rs_if (rt_cmp (o_eq (u64 hr)) (re_ix (re_var 0) re_int) re_str) (rss_one (rs_ret (re_lst false (ra_cons (re_tup (ra_cons (re_var 2) (ra_cons re_non ra_nil))) (ra_cons (re_tup (ra_cons (re_var 2) (ra_cons (re_var 2) ra_nil))) ra_nil))))) rss_nil)
   (rss_cons (rs_if (rt_cmp (o_eq (u64 hr)) (re_ix (re_var 0) re_int) re_str) (rss_one (rs_ret (re_lst false (ra_cons (re_tup (ra_cons (re_var 2) (ra_cons re_non ra_nil))) (ra_cons (re_tup (ra_cons re_non (ra_cons (re_var 2) ra_nil))) ra_nil))))) rss_nil)
   (rss_cons (rs_if (rt_cmp (o_eq (u64 hr)) (re_ix (re_var 0) re_int) re_str) (rss_one (rs_ret (re_if (rt_cmp o_is (re_var 1) re_non) (re_lst false (ra_cons (re_tup (ra_cons (re_var 2) (ra_cons re_non ra_nil))) ra_nil)) (re_if (rt_cmp (o_eq (u64 hr)) (re_var 2) (re_var 1)) (re_lst false (ra_cons (re_tup (ra_cons re_non (ra_cons (re_var 2) ra_nil))) ra_nil)) (re_lst false ra_nil))))) rss_nil)
   (rss_cons (rs_if (rt_cmp (o_eq (u64 hr)) (re_ix (re_var 0) re_int) re_str) (rss_one (rs_ret (re_lc false (own := ["_law_k"]) (caps := ["_law_x", "_law_many"]) (js := [2, 3]) rfl rfl rfl rfl rfl (⟨⟨rfl, Or.inr (Or.inl rfl), rfl, rfl⟩, ⟨⟨rfl, Or.inr (Or.inl rfl), rfl, rfl⟩, trivial⟩⟩) rfl (ri_rng T.n_range (ra_cons (re_op o_sub (re_var 3) re_int) ra_nil)) (fun _ _ _ _ => (rg_name (i := 0) (show (["_law_k", "_law_x", "_law_many"] : List Str).Nodup by decide +kernel) rfl (Or.inl rfl) (Or.inr rfl))) (fun _ _ _ _ => rifs_nil) (fun _ _ _ _ => (re_op (o_add false) (re_op (o_add false) (re_op (o_add false) (re_op (o_mulL false) (re_tup (ra_cons re_non ra_nil)) (re_var 0)) (re_tup (ra_cons (re_var 1) ra_nil))) (re_op (o_mulL false) (re_tup (ra_cons re_non ra_nil)) (re_op o_sub (re_op o_sub (re_var 2) re_int) (re_var 0)))) (re_tup (ra_cons (re_var 1) ra_nil))))))) rss_nil)
   (rss_cons (rs_set (i := 4) sc_law_alone.nd rfl (Or.inl rfl) (re_op (o_add false) (re_lst false (ra_cons (re_tup (ra_cons (re_var 2) (ra_cons re_non ra_nil))) ra_nil)) (re_op (o_mulL false) (re_lst false (ra_cons (re_tup (ra_cons (re_var 2) (ra_cons (re_var 1) ra_nil))) ra_nil)) (re_ct c_int T.n_int b_int (ra_cons (re_cmp o_isnot (re_var 1) re_non) ra_nil)))))
   (rss_one (rs_ret (re_op (o_add false) (re_var 4) (re_op (o_mulL false) (re_lst false (ra_cons (re_tup (ra_cons re_non (ra_cons (re_var 2) ra_nil))) ra_nil)) (re_ct c_int T.n_int b_int (ra_cons (re_cmp (o_eq (u64 hr)) (re_var 2) (re_var 1)) ra_nil)))))))))))))))
end
end Ln
namespace Ln
open PySem L2 PF
noncomputable def B_law_allowed : FS :=
  (fSeq (fSet 3 (fLst true (fCons (fOp (gMulL false) (fTup (fCons (fC (.da (.none))) fNil)) (fCB gLen (fCons (fCall 1 F_law_part_ports (fCons (fVar 1) fNil)) fNil))) fNil)))
  (fSeq (fFor (fRng (fCons (fVar 0) fNil)) (.nm 4) (fIfS (fTest (fOp gEq (fOp gIx (fVar 1) (fC (.da (.int 0)))) (fC (.da (.str "drain"))))) (fDrop (fMt gExtend (fVar 3) (fCons (fLc false [4] 1 (fRng (fCons (fVar 0) fNil)) (.nm 0) fYes (fTup (fCons (fVar 1) (fCons (fVar 0) fNil)))) fNil))) (fDrop (fMt gExtend (fVar 3) (fCons (fCall 3 F_law_alone (fCons (fVar 1) (fCons (fVar 2) (fCons (fVar 4) fNil)))) fNil)))))
  (fRet (fVar 3))))
noncomputable def F_law_allowed : FF := bodyF 5 B_law_allowed
theorem e_law_allowed {a0 a1 a2 : D} {s : S} : F_law_allowed [a0, a1, a2] s = (B_law_allowed [some a0, some a1, some a2, none, none] s).bind kBody := rfl
theorem sc_law_allowed : FnScope ["_law_things", "_law_part_here", "_law_held", "_law_found", "_law_x"] ["_law_things", "_law_part_here", "_law_held"] (defScope s__law_allowed) := ⟨rfl, rfl, rfl, by decide +kernel, rfl, by decide +kernel, by decide +kernel⟩
section
variable {P : Program} {w : World} {K : PySem.W.Frag} {mg : Str -> Option Value} {base : Heap}
theorem ok_law_allowed (T : Txt0 K mg) : CalF P w K mg base "_law_allowed" 3 3 F_law_allowed := by
 have c_law_part_ports := ok_law_part_ports (P := P) (w := w) (base := base) T
 have c_law_alone := ok_law_alone (P := P) (w := w) (base := base) T
 exact calF (k := 2) T.h__law_allowed sc_law_allowed rfl rfl (fun f cdv A outer s H E hr =>
   (rss_cons (rs_set (i := 3) sc_law_allowed.nd rfl (Or.inl rfl) (re_lst true (ra_cons (re_op (o_mulL false) (re_tup (ra_cons re_non ra_nil)) (re_cb c_len T.n_len b_len (ra_cons (re_c c_law_part_ports (hr.mono (by decide)) (ra_cons (re_var 1) ra_nil)) ra_nil))) ra_nil)))
   (rss_cons (rs_for rfl (ri_rng T.n_range (ra_cons (re_var 0) ra_nil)) (rg_name (i := 4) sc_law_allowed.nd rfl (Or.inr rfl)) (rss_one (rs_if (rt_cmp (o_eq (u64 hr)) (re_ix (re_var 1) re_int) re_str) (rss_one (rs_expr (re_mt PySem.F.slot_list_extend PySem.F.type_list_extend m_extend (re_var 3) (ra_cons (re_lc false (own := ["_law_y"]) (caps := ["_law_x"]) (js := [4]) rfl rfl rfl rfl rfl (⟨⟨rfl, Or.inr (Or.inl rfl), rfl, rfl⟩, trivial⟩) rfl (ri_rng T.n_range (ra_cons (re_var 0) ra_nil)) (fun _ _ _ _ => (rg_name (i := 0) (show (["_law_y", "_law_x"] : List Str).Nodup by decide +kernel) rfl (Or.inl rfl) (Or.inr rfl))) (fun _ _ _ _ => rifs_nil) (fun _ _ _ _ => (re_tup (ra_cons (re_var 1) (ra_cons (re_var 0) ra_nil))))) ra_nil)))) (rss_one (rs_expr (re_mt PySem.F.slot_list_extend PySem.F.type_list_extend m_extend (re_var 3) (ra_cons (re_c c_law_alone (hr.mono (by decide)) (ra_cons (re_var 1) (ra_cons (re_var 2) (ra_cons (re_var 4) ra_nil)))) ra_nil)))))))
   (rss_one (rs_ret (re_var 3))))))
end
end Ln
namespace Ln
open PySem L2 PF
noncomputable def B_law_behind : FS :=
  (fSeq (fIfS (fTest (fOp gNotIn (fOp gIx (fVar 0) (fC (.da (.int 0)))) (fTup (fVs (List.map D.da [.str "place", .str "last"]))))) (fRet (fC (.da (.none)))) fNext)
  (fSeq (fIfS (fTest (fOp gIsNot (fOp gIx (fVar 2) (fC (.da (.int 0)))) (fC (.da (.none))))) (fRet (fOp gIx (fVar 2) (fC (.da (.int 0))))) fNext)
  (fRet (fIf (fAndT (fTest (fOp gIsNot (fOp gIx (fVar 2) (fC (.da (.int 1)))) (fC (.da (.none))))) (fTest (fOp gEq (fOp gIx (fVar 0) (fC (.da (.int 0)))) (fC (.da (.str "place")))))) (fC (.da (.none))) (fVar 1)))))
noncomputable def F_law_behind : FF := bodyF 3 B_law_behind
theorem e_law_behind {a0 a1 a2 : D} {s : S} : F_law_behind [a0, a1, a2] s = (B_law_behind [some a0, some a1, some a2] s).bind kBody := rfl
theorem sc_law_behind : FnScope ["_law_part_here", "_law_held", "_law_told"] ["_law_part_here", "_law_held", "_law_told"] (defScope s__law_behind) := ⟨rfl, rfl, rfl, by decide +kernel, rfl, by decide +kernel, by decide +kernel⟩
section
variable {P : Program} {w : World} {K : PySem.W.Frag} {mg : Str -> Option Value} {base : Heap}
theorem ok_law_behind (T : Txt0 K mg) : CalF P w K mg base "_law_behind" 1 3 F_law_behind := by
 exact calF (k := 0) T.h__law_behind sc_law_behind rfl rfl (fun f cdv A outer s H E hr =>
   (rss_cons (rs_if (rt_cmp (o_notin (u65 hr)) (re_ix (re_var 0) re_int) (re_tup (ra_consts rfl))) (rss_one (rs_ret re_non)) rss_nil)
   (rss_cons (rs_if (rt_cmp o_isnot (re_ix (re_var 2) re_int) re_non) (rss_one (rs_ret (re_ix (re_var 2) re_int))) rss_nil)
   (rss_one (rs_ret (re_if (RW.rt (rw_and (rt_cmp o_isnot (re_ix (re_var 2) re_int) re_non) (rw_and1 (rt_cmp (o_eq (u64 hr)) (re_ix (re_var 0) re_int) re_str)))) re_non (re_var 1)))))))
end
end Ln
namespace Ln
open PySem L2 PF
noncomputable def B_law_moment : FS :=
  (fSeq (fSet 3 (fOp (gAdd false) (fLc false [] 2 (fZipB (fCons (fVar 0) (fCons (fVar 1) fNil))) (.t2 (.nm 0) (.nm 1)) (fTest (fOp gIsNot (fVar 1) (fC (.da (.none))))) (fTup (fCons (fVar 0) (fCons (fVar 1) fNil)))) (fVar 2)))
  (fRet (fCB gTuple (fCons (fCB (gSorted false) (fCons (fVar 3) fNil)) fNil))))
noncomputable def F_law_moment : FF := bodyF 4 B_law_moment
theorem e_law_moment {a0 a1 a2 : D} {s : S} : F_law_moment [a0, a1, a2] s = (B_law_moment [some a0, some a1, some a2, none] s).bind kBody := rfl
theorem sc_law_moment : FnScope ["_law_ports_here", "_law_row", "_law_more", "_law_pairs"] ["_law_ports_here", "_law_row", "_law_more"] (defScope s__law_moment) := ⟨rfl, rfl, rfl, by decide +kernel, rfl, by decide +kernel, by decide +kernel⟩
section
variable {P : Program} {w : World} {K : PySem.W.Frag} {mg : Str -> Option Value} {base : Heap}
theorem ok_law_moment (T : Txt0 K mg) : CalF P w K mg base "_law_moment" 1 3 F_law_moment := by
 exact calF (k := 0) T.h__law_moment sc_law_moment rfl rfl (fun f cdv A outer s H E hr =>
   (rss_cons (rs_set (i := 3) sc_law_moment.nd rfl (Or.inl rfl) (re_op (o_add false) (re_lc false (own := ["_law_port", "_law_one"]) (caps := []) (js := []) rfl rfl rfl rfl rfl (trivial) rfl (ri_zipB T.n_zip (ra_cons (re_var 0) (ra_cons (re_var 1) ra_nil))) (fun _ _ _ _ => (rg_t2 rfl (rg_name (i := 0) (show (["_law_port", "_law_one"] : List Str).Nodup by decide +kernel) rfl (Or.inl rfl) (Or.inr rfl)) (rg_name (i := 1) (show (["_law_port", "_law_one"] : List Str).Nodup by decide +kernel) rfl (Or.inl rfl) (Or.inr rfl)))) (fun _ _ _ _ => (rifs_one (rt_cmp o_isnot (re_var 1) re_non))) (fun _ _ _ _ => (re_tup (ra_cons (re_var 0) (ra_cons (re_var 1) ra_nil))))) (re_var 2)))
   (rss_one (rs_ret (re_ct c_tuple T.n_tuple b_tuple (ra_cons (re_cb (c_sorted false (u70 hr)) T.n_sorted b_sorted (ra_cons (re_var 3) ra_nil)) ra_nil))))))
end
end Ln
namespace Ln
open PySem L2 PF
noncomputable def B_law_rows : FS :=
  (fSeq (fSet 4 (fCall 1 F_law_part_ports (fCons (fVar 2) fNil)))
  (fSeq (fSet 5 (fCall 3 F_law_allowed (fCons (fVar 1) (fCons (fVar 2) (fCons (fVar 3) fNil)))))
  (fSeq (fFor (fIt (fSl false (fVar 5) fNo (fSome (fC (.da (.int 40)))))) (.nm 6) (fSeq (fSet 7 (fCall 2 F_law_draw (fCons (fVar 0) (fCons (fCB gLen (fCons (fVar 4) fNil)) fNil))))
  (fSet 5 (fOp (gAdd true) (fVar 5) (fLst false (fCons (fOp (gAdd false) (fOp (gAdd false) (fSl false (fVar 6) fNo (fSome (fVar 7))) (fTup (fCons (fOp gIx (fLst false (fVs (List.map D.da [.none, .int 0, .int 1, .int 2]))) (fCall 2 F_law_draw (fCons (fVar 0) (fCons (fC (.da (.int 4))) fNil)))) fNil))) (fSl false (fVar 6) (fSome (fOp (gAdd false) (fVar 7) (fC (.da (.int 1))))) fNo)) fNil))))))
  (fSeq (fFor (fRng (fCons (fC (.da (.int 4))) fNil)) (.nm 8) (fDrop (fMt gAppend (fVar 5) (fCons (fCB gTuple (fCons (fLc false [0] 1 (fIt (fVar 4)) (.nm 0) fYes (fOp gIx (fLst false (fVs (List.map D.da [.none, .int 0, .int 1, .int 2, .int 0]))) (fCall 2 F_law_draw (fCons (fVar 1) (fCons (fC (.da (.int 5))) fNil))))) fNil)) fNil))))
  (fRet (fFrz (fVar 5)))))))
noncomputable def F_law_rows : FF := bodyF 9 B_law_rows
theorem e_law_rows {a0 a1 a2 a3 : D} {s : S} : F_law_rows [a0, a1, a2, a3] s = (B_law_rows [some a0, some a1, some a2, some a3, none, none, none, none, none] s).bind kBody := rfl
theorem sc_law_rows : FnScope ["_law_feed_here", "_law_things", "_law_part_here", "_law_held", "_law_ports_here", "_law_found", "_law_row", "_law_at", "_law_k"] ["_law_feed_here", "_law_things", "_law_part_here", "_law_held"] (defScope s__law_rows) := ⟨rfl, rfl, rfl, by decide +kernel, rfl, by decide +kernel, by decide +kernel⟩
section
variable {P : Program} {w : World} {K : PySem.W.Frag} {mg : Str -> Option Value} {base : Heap}
theorem ok_law_rows (T : Txt0 K mg) : CalF P w K mg base "_law_rows" 4 4 F_law_rows := by
 have c_law_draw := ok_law_draw (P := P) (w := w) (base := base) T
 have c_law_part_ports := ok_law_part_ports (P := P) (w := w) (base := base) T
 have c_law_allowed := ok_law_allowed (P := P) (w := w) (base := base) T
 exact calF (k := 3) T.h__law_rows sc_law_rows rfl rfl (fun f cdv A outer s H E hr =>
   (rss_cons (rs_set (i := 4) sc_law_rows.nd rfl (Or.inl rfl) (re_c c_law_part_ports (hr.mono (by decide)) (ra_cons (re_var 2) ra_nil)))
   (rss_cons (rs_set (i := 5) sc_law_rows.nd rfl (Or.inl rfl) (re_c c_law_allowed (hr.mono (by decide)) (ra_cons (re_var 1) (ra_cons (re_var 2) (ra_cons (re_var 3) ra_nil)))))
   (rss_cons (rs_for rfl (ri_any (re_slice false (re_var 5) ro_none (ro_some re_int))) (rg_name (i := 6) sc_law_rows.nd rfl (Or.inl rfl)) (rss_cons (rs_set (i := 7) sc_law_rows.nd rfl (Or.inl rfl) (re_c c_law_draw (hr.mono (by decide)) (ra_cons (re_var 0) (ra_cons (re_cb c_len T.n_len b_len (ra_cons (re_var 4) ra_nil)) ra_nil))))
   (rss_one (rs_set (i := 5) sc_law_rows.nd rfl (Or.inl rfl) (re_op (o_add true) (re_var 5) (re_lst false (ra_cons (re_op (o_add false) (re_op (o_add false) (re_slice false (re_var 6) ro_none (ro_some (re_var 7))) (re_tup (ra_cons (re_ix (re_lst false (ra_consts rfl)) (re_c c_law_draw (hr.mono (by decide)) (ra_cons (re_var 0) (ra_cons re_int ra_nil)))) ra_nil))) (re_slice false (re_var 6) (ro_some (re_op (o_add false) (re_var 7) re_int)) ro_none)) ra_nil)))))))
   (rss_cons (rs_for rfl (ri_rng T.n_range (ra_cons re_int ra_nil)) (rg_name (i := 8) sc_law_rows.nd rfl (Or.inl rfl)) (rss_one (rs_expr (re_mt PySem.F.slot_list_append PySem.F.type_list_append m_append (re_var 5) (ra_cons (re_ct c_tuple T.n_tuple b_tuple (ra_cons (re_lc false (own := ["_law_port"]) (caps := ["_law_feed_here"]) (js := [0]) rfl rfl rfl rfl rfl (⟨⟨rfl, Or.inr (Or.inl rfl), rfl, rfl⟩, trivial⟩) rfl (ri_any (re_var 4)) (fun _ _ _ _ => (rg_name (i := 0) (show (["_law_port", "_law_feed_here"] : List Str).Nodup by decide +kernel) rfl (Or.inl rfl) (Or.inr rfl))) (fun _ _ _ _ => rifs_nil) (fun _ _ _ _ => (re_ix (re_lst false (ra_consts rfl)) (re_c c_law_draw (hr.mono (by decide)) (ra_cons (re_var 1) (ra_cons re_int ra_nil)))))) ra_nil)) ra_nil)))))
   (rss_one (rs_ret (re_frz (re_var 5)))))))))
end
end Ln
namespace Ln
open PySem L2 PF
noncomputable def B_law_right : FS :=
  (fSeq (fSet 4 (fCall 1 F_law_part_ports (fCons (fVar 2) fNil)))
  (fSeq (fSet 5 (fCall 3 F_law_allowed (fCons (fVar 1) (fCons (fVar 2) (fCons (fVar 3) fNil)))))
  (fSeq (fSet 6 (fLc false [4] 1 (fIt (fLst false (fVs (List.map D.da [.str "m", .str "mm", .str "aa", .str "zy"])))) (.nm 0) (fTest (fOp gNotIn (fVar 0) (fVar 1))) (fVar 0)))
  (fSeq (fFor (fIt (fCall 4 F_law_rows (fCons (fVar 0) (fCons (fVar 1) (fCons (fVar 2) (fCons (fVar 3) fNil)))))) (.nm 7) (fIfS (fTest (fOp gEq (fLc false [1] 1 (fIt (fVar 7)) (.nm 0) (fAndT (fTest (fOp gIsNot (fVar 0) (fC (.da (.none))))) (fTest (fOp gGe (fVar 0) (fVar 1)))) (fVar 0)) (fLst false fNil))) (fSeq (fSet 8 (fLc false [0, 1] 1 (fIt (fVar 6)) (.nm 0) (fTest (fOp gEq (fCall 2 F_law_draw (fCons (fVar 1) (fCons (fC (.da (.int 3))) fNil))) (fC (.da (.int 0))))) (fTup (fCons (fVar 0) (fCons (fCall 2 F_law_draw (fCons (fVar 1) (fCons (fVar 2) fNil))) fNil)))))
  (fSeq (fSet 9 (fCall 3 F_law_moment (fCons (fVar 4) (fCons (fVar 7) (fCons (fVar 8) fNil)))))
  (fSeq (fSet 10 (fCB gRepr (fCons (fLst false (fCons (fVar 2) (fCons (fVar 9) fNil))) fNil)))
  (fSeq (fSet 11 (fOp gIn (fVar 7) (fVar 5)))
  (fSeq (fIfS (fOrT (fTest (fOp gNe (fCB gRepr (fCons (fCall 3 Flets (fCons (fVar 2) (fCons (fVar 3) (fCons (fVar 9) fNil)))) fNil)) (fCB gRepr (fCons (fVar 11) fNil)))) (fTest (fOp gNe (fCB gRepr (fCons (fLst false (fCons (fVar 2) (fCons (fVar 9) fNil))) fNil)) (fVar 10)))) (fRet (fC (.da (.bool false)))) fNext)
  (fSeq (fSet 12 (fIf (fTru (fVar 11)) (fCall 3 Fheld_behind (fCons (fVar 2) (fCons (fVar 3) (fCons (fVar 9) fNil)))) (fC (.da (.none)))))
  (fIfS (fAndT (fTru (fVar 11)) (fTest (fOp gNe (fCB gRepr (fCons (fVar 12) fNil)) (fCB gRepr (fCons (fCall 3 F_law_behind (fCons (fVar 2) (fCons (fVar 3) (fCons (fVar 7) fNil)))) fNil))))) (fRet (fC (.da (.bool false)))) fNext))))))) fNext))
  (fRet (fC (.da (.bool true))))))))
noncomputable def F_law_right : FF := bodyF 13 B_law_right
theorem e_law_right {a0 a1 a2 a3 : D} {s : S} : F_law_right [a0, a1, a2, a3] s = (B_law_right [some a0, some a1, some a2, some a3, none, none, none, none, none, none, none, none, none] s).bind kBody := rfl
theorem sc_law_right : FnScope ["_law_feed_here", "_law_things", "_law_part_here", "_law_held", "_law_ports_here", "_law_allowed_here", "_law_some", "_law_row", "_law_more", "_law_moment_here", "_law_kept", "_law_due", "_law_told"] ["_law_feed_here", "_law_things", "_law_part_here", "_law_held"] (defScope s__law_right) := ⟨rfl, rfl, rfl, by decide +kernel, rfl, by decide +kernel, by decide +kernel⟩
section
variable {P : Program} {w : World} {K : PySem.W.Frag} {mg : Str -> Option Value} {base : Heap}
theorem ok_law_right (T : Txt0 K mg) : CalF P w K mg base "_law_right" 5 4 F_law_right := by
 have clets := oklets (P := P) (w := w) (base := base) T
 have cheld_behind := okheld_behind (P := P) (w := w) (base := base) T
 have c_law_draw := ok_law_draw (P := P) (w := w) (base := base) T
 have c_law_part_ports := ok_law_part_ports (P := P) (w := w) (base := base) T
 have c_law_allowed := ok_law_allowed (P := P) (w := w) (base := base) T
 have c_law_behind := ok_law_behind (P := P) (w := w) (base := base) T
 have c_law_moment := ok_law_moment (P := P) (w := w) (base := base) T
 have c_law_rows := ok_law_rows (P := P) (w := w) (base := base) T
 exact calF (k := 4) T.h__law_right sc_law_right rfl rfl (fun f cdv A outer s H E hr =>
   (rss_cons (rs_set (i := 4) sc_law_right.nd rfl (Or.inr rfl) (re_c c_law_part_ports (hr.mono (by decide)) (ra_cons (re_var 2) ra_nil)))
   (rss_cons (rs_set (i := 5) sc_law_right.nd rfl (Or.inl rfl) (re_c c_law_allowed (hr.mono (by decide)) (ra_cons (re_var 1) (ra_cons (re_var 2) (ra_cons (re_var 3) ra_nil)))))
   (rss_cons (rs_setLc false (own := ["_law_port"]) (caps := ["_law_ports_here"]) (js := [4]) (i := 6) rfl sc_law_right.nd rfl rfl rfl rfl rfl rfl rfl (⟨⟨rfl, Or.inr (Or.inl rfl), rfl, rfl⟩, trivial⟩) rfl (ri_any (re_lst false (ra_consts rfl))) (fun _ _ _ _ => (rg_name (i := 0) (show (["_law_port", "_law_ports_here"] : List Str).Nodup by decide +kernel) rfl (Or.inl rfl) (Or.inr rfl))) (fun _ _ _ _ => (rifs_one (rt_cmp (o_notin (u65 hr)) (re_var 0) (re_var 1)))) (fun _ _ _ _ => (re_var 0)))
   (rss_cons (rs_for rfl (ri_any (re_c c_law_rows (hr.mono (by decide)) (ra_cons (re_var 0) (ra_cons (re_var 1) (ra_cons (re_var 2) (ra_cons (re_var 3) ra_nil)))))) (rg_name (i := 7) sc_law_right.nd rfl (Or.inl rfl)) (rss_one (rs_if (rt_cmp (o_eq (u64 hr)) (re_lc false (own := ["_law_one"]) (caps := ["_law_things"]) (js := [1]) rfl rfl rfl rfl rfl (⟨⟨rfl, Or.inr (Or.inl rfl), rfl, rfl⟩, trivial⟩) rfl (ri_any (re_var 7)) (fun _ _ _ _ => (rg_name (i := 0) (show (["_law_one", "_law_things"] : List Str).Nodup by decide +kernel) rfl (Or.inl rfl) (Or.inr rfl))) (fun _ _ _ _ => (rifs_one (RW.rt (rw_and (rt_cmp o_isnot (re_var 0) re_non) (rw_and1 (rt_cmp o_ge (re_var 0) (re_var 1))))))) (fun _ _ _ _ => (re_var 0))) (re_lst false ra_nil)) (rss_cons (rs_setLc false (own := ["_law_port"]) (caps := ["_law_feed_here", "_law_things"]) (js := [0, 1]) (i := 8) rfl sc_law_right.nd rfl rfl rfl rfl rfl rfl rfl (⟨⟨rfl, Or.inr (Or.inl rfl), rfl, rfl⟩, ⟨⟨rfl, Or.inr (Or.inl rfl), rfl, rfl⟩, trivial⟩⟩) rfl (ri_any (re_var 6)) (fun _ _ _ _ => (rg_name (i := 0) (show (["_law_port", "_law_feed_here", "_law_things"] : List Str).Nodup by decide +kernel) rfl (Or.inl rfl) (Or.inr rfl))) (fun _ _ _ _ => (rifs_one (rt_cmp (o_eq (u64 hr)) (re_c c_law_draw (hr.mono (by decide)) (ra_cons (re_var 1) (ra_cons re_int ra_nil))) re_int))) (fun _ _ _ _ => (re_tup (ra_cons (re_var 0) (ra_cons (re_c c_law_draw (hr.mono (by decide)) (ra_cons (re_var 1) (ra_cons (re_var 2) ra_nil))) ra_nil)))))
   (rss_cons (rs_set (i := 9) sc_law_right.nd rfl (Or.inl rfl) (re_c c_law_moment (hr.mono (by decide)) (ra_cons (re_var 4) (ra_cons (re_var 7) (ra_cons (re_var 8) ra_nil)))))
   (rss_cons (rs_set (i := 10) sc_law_right.nd rfl (Or.inl rfl) (re_cb (c_repr hr) T.n_repr b_repr (ra_cons (re_lst false (ra_cons (re_var 2) (ra_cons (re_var 9) ra_nil))) ra_nil)))
   (rss_cons (rs_set (i := 11) sc_law_right.nd rfl (Or.inl rfl) (re_cmp (o_in (u65 hr)) (re_var 7) (re_var 5)))
   (rss_cons (rs_if (RW.rt (rw_or (rt_cmp (o_ne (u64 hr)) (re_cb (c_repr hr) T.n_repr b_repr (ra_cons (re_c clets (hr.mono (by decide)) (ra_cons (re_var 2) (ra_cons (re_var 3) (ra_cons (re_var 9) ra_nil)))) ra_nil)) (re_cb (c_repr hr) T.n_repr b_repr (ra_cons (re_var 11) ra_nil))) (rw_or1 (rt_cmp (o_ne (u64 hr)) (re_cb (c_repr hr) T.n_repr b_repr (ra_cons (re_lst false (ra_cons (re_var 2) (ra_cons (re_var 9) ra_nil))) ra_nil)) (re_var 10))))) (rss_one (rs_ret re_bl)) rss_nil)
   (rss_cons (rs_set (i := 12) sc_law_right.nd rfl (Or.inl rfl) (re_if (rt_tru (re_var 11)) (re_c cheld_behind (hr.mono (by decide)) (ra_cons (re_var 2) (ra_cons (re_var 3) (ra_cons (re_var 9) ra_nil)))) re_non))
   (rss_one (rs_if (RW.rt (rw_and (rt_tru (re_var 11)) (rw_and1 (rt_cmp (o_ne (u64 hr)) (re_cb (c_repr hr) T.n_repr b_repr (ra_cons (re_var 12) ra_nil)) (re_cb (c_repr hr) T.n_repr b_repr (ra_cons (re_c c_law_behind (hr.mono (by decide)) (ra_cons (re_var 2) (ra_cons (re_var 3) (ra_cons (re_var 7) ra_nil)))) ra_nil)))))) (rss_one (rs_ret re_bl)) rss_nil)))))))) rss_nil)))
   (rss_one (rs_ret re_bl)))))))
end
end Ln
namespace Ln
open PySem L2 PF
noncomputable def Blaw : FS :=
  (fSeq (fSet 1 (fCall 1 F_law_feed (fCons (fVar 0) fNil)))
  (fSeq (fFor (fRng (fCons (fC (.da (.int 6))) fNil)) (.nm 2) (fSeq (fSet 3 (fOp (gAdd false) (fC (.da (.int 1))) (fCall 2 F_law_draw (fCons (fVar 1) (fCons (fC (.da (.int 3))) fNil)))))
  (fSeq (fSet 4 (fCall 3 F_law_part (fCons (fVar 1) (fCons (fVar 3) (fCons (fCall 2 F_law_ports (fCons (fVar 1) (fCons (fOp (gAdd false) (fC (.da (.int 2))) (fCall 2 F_law_draw (fCons (fVar 1) (fCons (fC (.da (.int 6))) fNil)))) fNil))) fNil)))))
  (fSeq (fIfS (fTest (fOp gEq (fCall 2 F_law_draw (fCons (fVar 1) (fCons (fC (.da (.int 6))) fNil))) (fC (.da (.int 0))))) (fSeq (fSet 5 (fCB gTuple (fCons (fLc false [] 1 (fRng (fCons (fOp (gAdd false) (fC (.da (.int 5))) (fCall 2 F_law_draw (fCons (fVar 1) (fCons (fC (.da (.int 8))) fNil)))) fNil)) (.nm 0) fYes (fOp (gAdd false) (fC (.da (.str "q"))) (fOp gIx (fC (.da (.str "abcdefghijkl"))) (fVar 0)))) fNil)))
  (fSet 4 (fOp gIx (fLst false (fCons (fTup (fCons (fC (.da (.str "copy"))) (fCons (fC (.da (.str "p"))) (fCons (fVar 5) fNil)))) (fCons (fTup (fCons (fC (.da (.str "merge"))) (fCons (fVar 5) (fCons (fC (.da (.str "p"))) fNil)))) fNil))) (fCall 2 F_law_draw (fCons (fVar 1) (fCons (fC (.da (.int 2))) fNil)))))) fNext)
  (fSeq (fSet 6 (fLst false (fCons (fC (.da (.none))) fNil)))
  (fSeq (fIfS (fTest (fOp gIn (fOp gIx (fVar 4) (fC (.da (.int 0)))) (fTup (fVs (List.map D.da [.str "place", .str "last"]))))) (fSet 6 (fOp (gAdd false) (fLst false (fCons (fC (.da (.none))) fNil)) (fCB (gListR false) (fCons (fVar 3) fNil)))) fNext)
  (fFor (fIt (fVar 6)) (.nm 7) (fIfS (fNotT (fTru (fCall 4 F_law_right (fCons (fVar 1) (fCons (fVar 3) (fCons (fVar 4) (fCons (fVar 7) fNil))))))) (fRet (fC (.da (.bool false)))) fNext))))))))
  (fRet (fC (.da (.bool true))))))
noncomputable def Flaw : FF := bodyF 8 Blaw
theorem elaw {a0 : D} {s : S} : Flaw [a0] s = (Blaw [some a0, none, none, none, none, none, none, none] s).bind kBody := rfl
theorem sclaw : FnScope ["_law_script", "_law_feed_here", "_law_k", "_law_things", "_law_part_here", "_law_many", "_law_holds", "_law_held"] ["_law_script"] (defScope s_law) := ⟨rfl, rfl, rfl, by decide +kernel, rfl, by decide +kernel, by decide +kernel⟩
end Ln
local macro_rules | `(tactic| walk_at "ev") => do
  let ns := "PF.e_cv PF.e_md PF.e_zipB PF.zipB_tt PF.gAdd_int PF.gSub_int PF.gLe_int PF.gGt_int PF.gGe_int PF.gIs_non PF.gIsNot_non PF.e_op PF.e_op1 PF.e_op2 PF.e_c PF.e_var0 PF.e_var1 PF.e_var2 PF.e_var3 PF.e_var4 PF.e_var5 PF.e_var6 PF.e_var7 PF.e_var8 PF.e_var9 PF.e_var10 PF.e_var11 PF.e_var12 PF.e_seq PF.e_seqn PF.e_seqr PF.e_ret PF.e_ret1 PF.e_next PF.e_drop PF.e_drop1 PF.e_set PF.e_ifS PF.e_ifT PF.e_ifF PF.e_if PF.e_ifET PF.e_ifEF PF.e_test PF.e_test1 PF.e_andT PF.e_orT PF.e_notT PF.e_andT1 PF.e_andT0 PF.e_orT0 PF.e_notT1 PF.e_and PF.e_or PF.e_and1 PF.e_and0 PF.e_or1 PF.e_or0 PF.e_nil PF.e_vs PF.e_cons PF.e_cons1 PF.e_cons2 PF.e_tup PF.e_lst PF.lst0 PF.lst0n PF.tup1 PF.tup2 PF.tup3 PF.tup4 PF.lst1 PF.lst2 PF.lst4 PF.e_sl PF.e_sl1 PF.e_sl2 PF.e_sl3 PF.e_no PF.e_some PF.e_some1 PF.e_neg PF.e_neg1 PF.e_tru PF.tru_bl PF.e_cb PF.e_call PF.e_call1 PF.e_call2 PF.e_call3 PF.e_call4 PF.len_tup PF.len_lst PF.min_int PF.list_lst PF.list_lstN PF.tuple_lst PF.sl_tup PF.sl_lst PF.sl_frz PF.e_bodyr PF.e_setIt PF.e_setIt1 PF.e_setIt2 PF.e_setIt3 PF.e_mt PF.e_mt2 PF.e_frz PF.e_asg PF.e_for PF.e_for1 PF.e_it PF.it_lst PF.it_tup PF.e_rng PF.loop_nx PF.loop_ct PF.loop_bk PF.loop_rt PF.e_lc PF.e_newF PF.comp_nil PF.comp_t PF.comp_f PF.comp_x PF.e_yes PF.R.bind_ok' PF.R.W_ok' PF.R.Wk_app PF.l_set1 PF.l_set2 PF.l_set3 PF.l_set4 PF.l_set5 PF.l_set6 PF.l_set7 PF.l_set8 PF.l_set9 PF.l_set10 PF.l_set11 PF.l_set12 PF.l_nm0 PF.l_nm2 PF.l_nm4 PF.l_nm6 PF.l_nm7 PF.l_nm8 Bool.not_true Bool.not_false decide_true decide_false Bool.and_true Bool.and_false Bool.true_and Bool.false_and List.length_append List.length_cons List.length_nil List.append_assoc List.cons_append List.nil_append Nat.zero_add Nat.reduceAdd PF.lstN1 PF.lstN2 PF.lstN4 PF.kLst_da PF.kTup_da Nat.reduceLeDiff PF.it0 PF.il0 PF.it1 PF.il1 PF.it2 PF.il2 PF.it3 PF.il3 PF.il4 if_true if_false Bool.false_eq_true".splitOn " "
  let ids : Array (Lean.TSyntax `term) := ns.toArray.map fun n => Lean.mkIdent n.toName
  `(tactic| try simp only [$[$ids:term],*])
local macro_rules | `(tactic| walk_at "go") => `(tactic| (walk_at "ev"; (try simp only [PF.R.W_bindk])))
namespace Ln
open PySem L2 PF
section
variable {s : S} {n : Nat} {a b c d v : D}
theorem ix4 (k : Nat) {ds : List D} {x : D} (hl : n < s.length) (h : ds[k]? = some x) : gIx (.ref n) (.int (k : Int)) (s.set n (.lst ds)) = .ok x (s.set n (.lst ds)) := gIx_ref (List.getElem?_set_self hl) h
theorem st4 (k : Nat) {ds : List D} (hl : n < s.length) (h : k < ds.length) : gSet (.ref n) (.int (k : Int)) v (s.set n (.lst ds)) = .ok .non (s.set n (.lst (ds.set k v))) := by
 rw [gSet_ref (List.getElem?_set_self hl) h, List.set_set]
theorem ix0 (hl : n < s.length) : gIx (.ref n) (.int 0) (s.set n (.lst [a, b, c, d])) = .ok a (s.set n (.lst [a, b, c, d])) := ix4 0 hl rfl
theorem ix1 (hl : n < s.length) : gIx (.ref n) (.int 1) (s.set n (.lst [a, b, c, d])) = .ok b (s.set n (.lst [a, b, c, d])) := ix4 1 hl rfl
theorem ix2 (hl : n < s.length) : gIx (.ref n) (.int 2) (s.set n (.lst [a, b, c, d])) = .ok c (s.set n (.lst [a, b, c, d])) := ix4 2 hl rfl
theorem ix3 (hl : n < s.length) : gIx (.ref n) (.int 3) (s.set n (.lst [a, b, c, d])) = .ok d (s.set n (.lst [a, b, c, d])) := ix4 3 hl rfl
theorem st1 (hl : n < s.length) : gSet (.ref n) (.int 1) v (s.set n (.lst [a, b, c, d])) = .ok .non (s.set n (.lst [a, v, c, d])) := st4 1 hl (by simp)
theorem st2 (hl : n < s.length) : gSet (.ref n) (.int 2) v (s.set n (.lst [a, b, c, d])) = .ok .non (s.set n (.lst [a, b, v, d])) := st4 2 hl (by simp)
theorem st3 (hl : n < s.length) : gSet (.ref n) (.int 3) v (s.set n (.lst [a, b, c, d])) = .ok .non (s.set n (.lst [a, b, c, v])) := st4 3 hl (by simp)
end
structure Fd (s : S) (n c : Nat) : Prop where
 ex : ∃ (xs : List Int) (i j k : Int), s[n]? = some (.lst [.lst (xs.map PyData.int), .int i, .int j, .int k]) /\ xs.length <= 63 /\ 0 <= i /\ 0 <= k /\ k <= c
theorem Fd.lt {s : S} {n c : Nat} (h : Fd s n c) : n < s.length := by
 obtain ⟨xs, i, j, k, e, _⟩ := h.ex
 exact (List.getElem?_eq_some_iff.mp e).1
theorem fd_set {s : S} {n c : Nat} {xs : List Int} {i j k : Int} (hl : n < s.length) (hx : xs.length <= 63) (hi : 0 <= i) (hk : 0 <= k) (hc : k <= c) : Fd (s.set n (.lst [.lst (xs.map PyData.int), .int i, .int j, .int k])) n c := ⟨xs, i, j, k, List.getElem?_set_self hl, hx, hi, hk, hc⟩
theorem eqv_nil (xs : List PyData) : PyData.eqv (.list xs) (.list []) = xs.isEmpty := by cases xs <;> rfl
theorem lay_ints : ∀ xs : List Int, PyData.canLayAll0 (xs.map PyData.int) = true
 | [] => rfl
 | x :: r => by simp only [List.map_cons, PyData.canLayAll0, PyData.canLay0, lay_ints r, Bool.and_self]
theorem depth_ints : ∀ xs : List Int, PyData.depthAll (xs.map PyData.int) <= 1
 | [] => by (simp [PyData.depthAll])
 | x :: r => by simp only [List.map_cons, PyData.depthAll, PyData.depth]; have := depth_ints r; omega
theorem okD_ints (xs : List Int) : okD (.list (xs.map PyData.int)) = true := by
 unfold okD
 rw [Bool.and_eq_true]
 refine ⟨by simp only [PyData.canLay0]; exact lay_ints xs, decide_eq_true ?_⟩
 simp only [PyData.depth]
 have := depth_ints xs
 omega
theorem draw_ok {s : S} {n c : Nat} {m : Int} (h : Fd s n c) (hm : 0 < m) (hm2 : m < 1073741824) (hc : c < 2 ^ 40) : (F_law_draw [.ref n, .int m] s).W fun d s' => ∃ i, d = .int i /\ 0 <= i /\ i < m /\ Fd s' n (c + 1) /\ Same n s s' := by
 obtain ⟨xs, i, j, k, e, hx, hi, hk, hkc⟩ := h.ex
 have hl : n < s.length := (List.getElem?_eq_some_iff.mp e).1
 have e0 : F_law_draw [.ref n, .int m] s = F_law_draw [.ref n, .int m] (s.set n (.lst [.lst (xs.map PyData.int), .int i, .int j, .int k])) := by rw [set_self e]
 rw [e0, e_law_draw]; unfold B_law_draw
 have fin : ∀ x : Int, 0 <= x % m /\ x % m < m := fun x => ⟨Int.emod_nonneg _ (by omega), Int.emod_lt_of_pos _ hm⟩
 have p18 : ∀ s : S, gPow (.int 10) (.int 18) s = .ok (.int 1000000000000000000) s := fun s => gPow_int (by decide) (by decide) (by decide)
 by_cases hj : 0 < j
 ·simp [ix0 hl, ix1 hl, ix2 hl, ix3 hl, st1 hl, st2 hl, st3 hl, hj, gMod_int hm, gDiv_int hm hm2]
  exact ⟨(fin _).1, (fin _).2, fd_set hl hx hi (by omega) (by omega), same_set⟩
 ·have q1 : ∀ (x : Int) (s : S), gMod (.int x) (.int 998244353) s = .ok (.int (x % 998244353)) s := fun x s => gMod_int (by decide)
  have q2 : ∀ (x : Int) (s : S), gMul (.int 5003) (.int x) s = .ok (.int (5003 * x)) s := fun x s => gMul_int (.inl (by decide))
  have q3 : ∀ (x : Int) (s : S), gMul (.int x) (.int 69621) s = .ok (.int (x * 69621)) s := fun x s => gMul_int (.inr (by decide))
  have q4 : ∀ (x : Int) (s : S), gMod (.int x) (.int 2147483629) s = .ok (.int (x % 2147483629)) s := fun x s => gMod_int (by decide)
  have q5 : ∀ (x : Int) (s : S), gDiv (.int x) (.int 13) s = .ok (.int (x / 13)) s := fun x s => gDiv_int (by decide) (by decide)
  have q6 : ∀ (x : Int) (s : S), gMul (.int 7919) (.int x) s = .ok (.int (7919 * x)) s := fun x s => gMul_int (.inl (by decide))
  have q7 : ∀ (x : Int) (s : S), gMul (.int x) (.int (k + 1)) s = .ok (.int (x * (k + 1))) s := fun x s => gMul_int (.inr (by omega))
  have q8 : ∀ (x : Int) (s : S), gMul (.int x) (.int 48271) s = .ok (.int (x * 48271)) s := fun x s => gMul_int (.inr (by decide))
  have q9 : ∀ (x : Int) (s : S), gMod (.int x) (.int 2147483587) s = .ok (.int (x % 2147483587)) s := fun x s => gMod_int (by decide)
  have q10 : ∀ (x : Int) (s : S), gDiv (.int x) (.int 64) s = .ok (.int (x / 64)) s := fun x s => gDiv_int (by decide) (by decide)
  have qe : ∀ (s : S), gNe (.lst (xs.map PyData.int)) (.lst []) s = .ok (.bl (!xs.isEmpty)) s := fun s => by
   rw [gNe_da (okD_ints xs) rfl, eqv_nil]
   cases xs <;> rfl
  cases hxs : xs with
  | nil =>
   subst hxs
   have qe0 : ∀ s : S, gNe (.lst []) (.lst []) s = .ok (.bl false) s := fun s => gNe_da rfl rfl
   simp [qe0, ix0 hl, ix1 hl, ix2 hl, ix3 hl, st1 hl, st2 hl, st3 hl, hj, gMod_int hm, gDiv_int hm hm2, p18, q1, q2, q3, q4, q5, q6, q7, q8, q9, q10, qe]
   exact ⟨(fin _).1, (fin _).2, fd_set (xs := []) hl (by simp) (by omega) (by omega) (by omega), same_set⟩
  | cons y ys =>
   have hne : xs ≠ [] := by rw [hxs]; simp
   have hlen : 0 < (xs.length : Int) := by rw [hxs]; simp
   rw [← hxs]
   have qe' : xs.isEmpty = false := by rw [hxs]; rfl
   have ixx : ∀ s : S, gIx (.lst (xs.map PyData.int)) (.int (i % (xs.length : Int))) s = .ok (.int (xs.getD (i % (xs.length : Int)).toNat 0)) s := fun s => by
    have h0 := Int.emod_nonneg i (show (xs.length : Int) ≠ 0 by omega)
    have h1 := Int.emod_lt_of_pos i hlen
    obtain ⟨q, hq⟩ : ∃ q : Nat, i % (xs.length : Int) = q := ⟨(i % (xs.length : Int)).toNat, by omega⟩
    rw [hq]
    have hlt : q < xs.length := by omega
    rw [gIx_lst (p := .int (xs.getD q 0)) (by rw [List.getElem?_map, List.getElem?_eq_getElem hlt, List.getD_eq_getElem?_getD, List.getElem?_eq_getElem hlt]; rfl)]
    rfl
   generalize hcell : xs.getD (i % (xs.length : Int)).toNat 0 = cell at ixx
   have qm : ∀ s : S, gMod (.int i) (.int (xs.length : Int)) s = .ok (.int (i % (xs.length : Int))) s := fun s => gMod_int hlen
   by_cases hb : 1000000000000000000 <= cell
   ·by_cases hb2 : i + 1 <= (xs.length : Int)
    ·simp [ix0 hl, ix1 hl, ix2 hl, ix3 hl, st1 hl, st2 hl, st3 hl, hj, gMod_int hm, gDiv_int hm hm2, p18, q1, q2, q3, q4, q5, q6, q7, q8, q9, q10, qe, qe', ixx, qm, hb, hb2]
     exact ⟨(fin _).1, (fin _).2, fd_set hl hx (by omega) (by omega) (by omega), same_set⟩
    ·simp [ix0 hl, ix1 hl, ix2 hl, ix3 hl, st1 hl, st2 hl, st3 hl, hj, gMod_int hm, gDiv_int hm hm2, p18, q1, q2, q3, q4, q5, q6, q7, q8, q9, q10, qe, qe', ixx, qm, hb, hb2]
     exact ⟨(fin _).1, (fin _).2, fd_set hl hx (by omega) (by omega) (by omega), same_set⟩
   ·simp [ix0 hl, ix1 hl, ix2 hl, ix3 hl, st1 hl, st2 hl, st3 hl, hj, gMod_int hm, gDiv_int hm hm2, p18, q1, q2, q3, q4, q5, q6, q7, q8, q9, q10, qe, qe', ixx, qm, hb]
    exact ⟨(fin _).1, (fin _).2, fd_set hl hx (by omega) (by omega) (by omega), same_set⟩
theorem Fd.le {s : S} {n c c' : Nat} (h : Fd s n c) (hc : c <= c') : Fd s n c' := by
 obtain ⟨xs, i, j, k, e, hx, hi, hk, hkc⟩ := h.ex
 exact ⟨xs, i, j, k, e, hx, hi, hk, by omega⟩
theorem Fd.ext {s s' : S} {n c : Nat} (h : Fd s n c) (x : Ext s s') : Fd s' n c := by
 obtain ⟨xs, i, j, k, e, r⟩ := h.ex
 exact ⟨xs, i, j, k, x.get e, r⟩
theorem Fd.set {s : S} {n c k : Nat} {o : O} (h : Fd s n c) (hk : k ≠ n) : Fd (s.set k o) n c := by
 obtain ⟨xs, i, j, q, e, r⟩ := h.ex
 exact ⟨xs, i, j, q, by rw [List.getElem?_set_ne hk]; exact e, r⟩
theorem map_erase {α β : Type} (f : α -> β) (l : List α) (k : Nat) : (l.map f).eraseIdx k = (l.eraseIdx k).map f := by
 induction l generalizing k with -- own
 | nil => rfl
 | cons x r ih =>
  cases k with
  | zero => rfl
  | succ k => simp [ih]
theorem perm_erase {α : Type} {l : List α} {k : Nat} {x : α} (h : l[k]? = some x) : (x :: l.eraseIdx k).Perm l := by
 induction l generalizing k with -- own
 | nil => simp at h
 | cons y r ih =>
  cases k with
  | zero => simp at h; subst h; exact List.Perm.refl _
  | succ k =>
   have := ih (k := k) (by simpa using h)
   rw [List.eraseIdx_cons_succ]
   exact (List.Perm.swap y x _).trans (this.cons y)
structure ShufJ (s : S) (n c : Nat) (xs : List PyData) (r : List D) (ρ : En) (s' : S) : Prop where
 ex : ∃ (ls fs : List PyData) (u : Option D) (c' : Nat), ρ = [some (.ref n), some (.lst xs), some (.ref s.length), some (.ref (s.length + 1)), u] /\ s'[s.length]? = some (.lst (ls.map D.da)) /\ s'[s.length + 1]? = some (.lst (fs.map D.da)) /\
  (fs ++ ls).Perm xs /\ ls.length = r.length /\ Fd s' n c' /\ c' + r.length <= c + xs.length /\ Same n s s'
theorem shuf_a {s : S} {xs : List PyData} : gLen [.ref s.length] (s ++ [O.lst (xs.map D.da), O.lst []]) = .ok (.int xs.length) (s ++ [O.lst (xs.map D.da), O.lst []]) := by
 rw [len_ref (ds := xs.map D.da) (by simp), List.length_map]
theorem shuf_b {xs : List PyData} (hx : xs.length <= 1000) (s : S) : gRng [.int xs.length] s = .ok (rngD 0 xs.length, none) s := by rw [rng_ok (by omega) (by omega)]; rfl
theorem shuf_c {s : S} {n c : Nat} {xs : List PyData} (h : Fd s n c) : ShufJ s n c xs (rngD 0 xs.length) [some (.ref n), some (.lst xs), some (.ref s.length), some (.ref (s.length + 1)), none] (s ++ [O.lst (xs.map D.da), O.lst []]) :=
 ⟨xs, [], none, c, rfl, by simp, by simp, by simp, by rw [rng_len], h.ext (Ext.add _ _), by rw [rng_len]; omega, (Ext.add _ _).same n⟩
noncomputable def shufB : FS := fDrop (fMt gAppend (fVar 3) (fCons (fMt gPopAt (fVar 2) (fCons (fCall 2 F_law_draw (fCons (fVar 0) (fCons (fCB gLen (fCons (fVar 2) fNil)) fNil))) fNil)) fNil))
theorem shuf_s1 {s s1 : S} {n : Nat} {xs ls fs : List PyData} {d : D} {Q : Fl -> S -> Prop} (hl : s1[s.length]? = some (.lst (ls.map D.da))) (hf : s1[s.length + 1]? = some (.lst (fs.map D.da)))
  (k : (F_law_draw [.ref n, .int ls.length] s1).W fun i s2 => (gPopAt (.ref s.length) [i] s2).W fun y s3 => (gAppend (.ref (s.length + 1)) [y] s3).W fun _ s4 => Q (.nx [some (.ref n), some (.lst xs), some (.ref s.length), some (.ref (s.length + 1)), some d]) s4) :
  (shufB [some (.ref n), some (.lst xs), some (.ref s.length), some (.ref (s.length + 1)), some d] s1).W Q := by
 have e3 : gLen [.ref s.length] s1 = .ok (.int ls.length) s1 := by rw [len_ref hl, List.length_map]
 unfold shufB
 walk_at "ev"
 rw [e_mt1 hf]
 walk_at "ev"
 rw [e_mt1 hl]
 walk_at "ev"
 rw [e3]
 walk_at "ev"
 simp only [R.W_bindk]
 refine R.W_mono k fun i s2 q => ?_
 walk_at "ev"
 exact q
theorem shuf_s2 {s s1 : S} {n c c' : Nat} {xs ls fs : List PyData} {d : D} {r : List D} (hx : xs.length <= 1000) (hc : c + xs.length < 2 ^ 40) (hn : n < s.length) (hl : s1[s.length]? = some (.lst (ls.map D.da))) (hf : s1[s.length + 1]? = some (.lst (fs.map D.da))) (pm : (fs ++ ls).Perm xs) (ln : ls.length = r.length + 1) (fd : Fd s1 n c') (hcc : c' + (r.length + 1) <= c + xs.length) (sm : Same n s s1) :
  (F_law_draw [.ref n, .int ls.length] s1).W fun i s2 => (gPopAt (.ref s.length) [i] s2).W fun y s3 => (gAppend (.ref (s.length + 1)) [y] s3).W fun _ s4 => ShufJ s n c xs r [some (.ref n), some (.lst xs), some (.ref s.length), some (.ref (s.length + 1)), some d] s4 := by
 have hpl := pm.length_eq
 rw [List.length_append] at hpl
 refine R.W_mono (draw_ok fd (by omega) (by omega) (by omega)) ?_
 rintro _ s2 ⟨i, rfl, h0, h1, fd2, sm2⟩
 obtain ⟨q, rfl⟩ : ∃ q : Nat, i = (q : Int) := ⟨i.toNat, by omega⟩
 have hq : q < ls.length := by omega
 have l1 : s.length < s1.length := (List.getElem?_eq_some_iff.mp hl).1
 have l2 : s.length + 1 < s1.length := (List.getElem?_eq_some_iff.mp hf).1
 have hl2 : s2[s.length]? = some (.lst (ls.map D.da)) := by rw [sm2.get _ (by omega) l1]; exact hl
 have hf2 : s2[s.length + 1]? = some (.lst (fs.map D.da)) := by rw [sm2.get _ (by omega) l2]; exact hf
 have hq2 : (ls.map D.da)[q]? = some (D.da ls[q]) := by rw [List.getElem?_map, List.getElem?_eq_getElem hq]; rfl
 rw [popAt_ok hl2 hq2 (by rw [List.length_map]; omega), R.W_ok]
 have hf3 : (s2.set s.length (.lst ((ls.map D.da).eraseIdx q)))[s.length + 1]? = some (.lst (fs.map D.da)) := by rw [List.getElem?_set_ne (by omega)]; exact hf2
 rw [append_ok (d := D.da ls[q]) hf3 (by rw [List.length_map]; omega), R.W_ok]
 refine ⟨ls.eraseIdx q, fs ++ [ls[q]], _, c' + 1, rfl, ?_, ?_, ?_, ?_, ?_, by omega, ?_⟩
 ·rw [List.getElem?_set_ne (by omega), List.getElem?_set_self (Nat.lt_of_lt_of_le l1 sm2.len), map_erase]
 ·rw [List.getElem?_set_self (by simp; exact Nat.lt_of_lt_of_le l2 sm2.len)]
  simp
 ·refine List.Perm.trans ?_ pm
  rw [List.append_assoc]
  exact (perm_erase (List.getElem?_eq_getElem hq)).append_left fs
 ·rw [List.length_eraseIdx, if_pos hq]; omega
 ·exact (fd2.set (by omega)).set (by omega)
 ·exact ((sm.trans sm2).own (by omega)).own (by omega)
theorem shuf_ok {s : S} {n c : Nat} {xs : List PyData} (h : Fd s n c) (hx : xs.length <= 1000) (hc : c + xs.length < 2 ^ 40) : (F_law_shuffled [.ref n, .lst xs] s).W fun d s' => ∃ ys, d = .lst ys /\ ys.Perm xs /\ Fd s' n (c + xs.length) /\ Same n s s' := by
 rw [e_law_shuffled]; unfold B_law_shuffled
 have hn := h.lt
 walk_at "ev"
 rw [shuf_a]
 walk_at "ev"
 rw [shuf_b hx]
 walk_at "ev"
 simp only [R.W_bindk]
 refine loop_inv (ShufJ s n c xs) ?_ ?_ _ _ _ (shuf_c h)
 ·rintro d r ρ s1 ⟨ls, fs, u, c', rfl, hl, hf, pm, ln, fd, hcc, sm⟩
  exact ⟨_, rfl, shuf_s1 hl hf (shuf_s2 hx hc hn hl hf pm ln fd hcc sm)⟩
 ·rintro ρ s1 ⟨ls, fs, u, c', rfl, hl, hf, pm, ln, fd, hcc, sm⟩
  have : ls = [] := List.length_eq_zero_iff.mp ln
  subst this
  walk_at "ev"
  rw [frz_ref hf (pures_da fs)]
  walk_at "ev"
  exact ⟨fs, rfl, by rw [List.append_nil] at pm; exact pm, (fd.set (by omega)).le hcc, sm.own (by omega)⟩
end Ln
namespace Ln
open PySem L2 PF
noncomputable def pools : List (List Str) := [["a", "b", "c", "d", "e", "f", "g", "h"], ["net", "end", "within", "place", "last", "to", "a", "table"], ["a", "ab", "abc", "abcd", "b", "ba", "abcdefgh", "abcdefgi"], ["zzzzzzzz", "z", "zz", "y", "only", "onlya", "copy", "aa"]]
theorem pools_ok : ∀ p ∈ pools, p.length = 8 /\ p.Nodup /\ ∀ x ∈ p, okPort x = true := by decide +kernel
theorem cut_from {α : Type} (l : List α) (t : Nat) (h : t <= l.length) : cutL l (some (t : Int)) none = l.drop t := by
 unfold cutL
 rw [HT.sIx_nat, HT.sIx_none, Nat.min_eq_left h, List.take_of_length_le (by simp)]
theorem cut_to {α : Type} (l : List α) (t : Nat) : cutL l none (some (t : Int)) = l.take t := by
 unfold cutL
 rw [HT.sIx_nat, HT.sIx_none, List.drop_zero, Nat.sub_zero, List.take_eq_take_iff]
 omega
theorem map_ix {α β : Type} {f : α -> β} {l : List α} {k : Nat} {x : α} (h : l[k]? = some x) : (l.map f)[k]? = some (f x) := by rw [List.getElem?_map, h]; rfl
theorem ports_ok {s : S} {n c k : Nat} (h : Fd s n c) (hk : k <= 8) (hc : c + 2 < 2 ^ 40) : (F_law_ports [.ref n, .int (k : Int)] s).W fun d s' => ∃ ps : List Str, d = .lst (ps.map PyData.str) /\ ps.length = k /\ ps.Nodup /\ (∀ x ∈ ps, okPort x = true) /\ Fd s' n (c + 2) /\ Same n s s' := by
 rw [e_law_ports]; unfold B_law_ports
 have hn := h.lt
 walk_at "ev"
 have g0 : ∀ (x y : D), (s ++ [O.lst [x, y]])[s.length]? = some (O.lst [x, y]) := fun x y => by simp
 rw [e_mt1 (g0 _ _)]
 walk_at "ev"
 rw [append_ok (g0 _ _) (by simp)]
 walk_at "ev"
 have g1 : ∀ (x y z : D), ((s ++ [O.lst [x, y]]).set s.length (O.lst ([x, y] ++ [z]))) = s ++ [O.lst [x, y, z]] := fun x y z => by simp
 have g2 : ∀ (x y z : D), (s ++ [O.lst [x, y, z]])[s.length]? = some (O.lst [x, y, z]) := fun x y z => by simp
 have g3 : ∀ (x y z w : D), ((s ++ [O.lst [x, y, z]]).set s.length (O.lst ([x, y, z] ++ [w]))) = s ++ [O.lst [x, y, z, w]] := fun x y z w => by simp
 simp only [List.cons_append, List.nil_append] at g1 g3
 rw [g1, e_mt1 (g2 _ _ _)]
 walk_at "ev"
 rw [append_ok (g2 _ _ _) (by simp)]
 walk_at "ev"
 rw [g3]
 have e4 : ∀ x : List D, x = pools.map (fun p => D.lst (p.map PyData.str)) -> ∀ i : Nat, i < 4 -> ∃ p ∈ pools, x[i]? = some (D.lst (p.map PyData.str)) := by
  rintro _ rfl i hi
  have hl : i < pools.length := hi
  exact ⟨pools[i], List.getElem_mem hl, by rw [List.getElem?_map, List.getElem?_eq_getElem hl]; rfl⟩
 generalize hp : ([_, _, _, _] : List D) = P0
 have e5 := e4 P0 (by rw [← hp]; rfl)
 have hP : (s ++ [O.lst P0])[s.length]? = some (O.lst P0) := by simp
 clear hp g0 g1 g2 g3 e4
 walk_at "go"
 refine R.W_mono (draw_ok (h.ext (Ext.add s _)) (by decide) (by decide) (by omega)) ?_
 rintro _ s1 ⟨i, rfl, h0, h1, fd1, sm1⟩
 obtain ⟨q, rfl⟩ : ∃ q : Nat, i = (q : Int) := ⟨i.toNat, by omega⟩
 obtain ⟨p, pm, hp⟩ := e5 q (by omega)
 obtain ⟨pl, pn, pk⟩ := pools_ok p pm
 have hP1 : s1[s.length]? = some (O.lst P0) := by rw [sm1.get _ (by omega) (by simp)]; exact hP
 walk_at "go"
 rw [gIx_ref hP1 hp]
 walk_at "go"
 refine R.W_mono (draw_ok fd1 (by decide) (by decide) (by omega)) ?_
 rintro _ s2 ⟨j, rfl, j0, j1, fd2, sm2⟩
 obtain ⟨t, rfl⟩ : ∃ t : Nat, j = (t : Int) := ⟨j.toNat, by omega⟩
 walk_at "go"
 rw [gAdd_lst (by simp [cutL]; omega)]
 walk_at "go"
 rw [cut_from _ _ (by rw [List.length_map]; omega), cut_to, cut_to, ← List.map_drop, ← List.map_take, ← List.map_append, ← List.map_take]
 refine ⟨_, rfl, ?_, ?_, fun x hx => ?_, fd2, ((Ext.add s _).same n).trans (sm1.trans sm2)⟩
 ·simp; omega
 ·refine List.Nodup.sublist (List.take_sublist _ _) ?_
  have : (p.drop t ++ p.take t).Perm p := by
   refine List.perm_append_comm.trans ?_
   rw [List.take_append_drop]
  exact this.nodup_iff.mpr pn
 ·have := List.mem_of_mem_take hx
  rcases List.mem_append.mp this with z | z
  ·exact pk x (List.mem_of_mem_drop z)
  ·exact pk x (List.mem_of_mem_take z)
end Ln
namespace Ln
open PySem L2 PF
theorem gEq_str {x y : Str} {s : S} (h1 : okD (.str x) = true) (h2 : okD (.str y) = true) : gEq (.str x) (.str y) s = .ok (.bl (decide (x = y))) s := by
 rw [gEq_da h1 h2]
 have : PyData.eqv (.str x) (.str y) = decide (x = y) := by
  show (x == y) = _
  (rw [Bool.eq_iff_iff, beq_iff_eq, decide_eq_true_eq])
 rw [this]
theorem gEq_lit {x y : Str} {b : Bool} (h : okD (.str x) = true /\ okD (.str y) = true /\ decide (x = y) = b) (s : S) : gEq (.str x) (.str y) s = .ok (.bl b) s := by rw [gEq_str h.1 h.2.1, h.2.2]
theorem any_strs {w : Str} : ∀ ss : List Str, ((ss.map PyData.str).any fun d => PyData.eqv d (.str w)) = decide (w ∈ ss)
 | [] => by simp
 | x :: r => by
  rw [List.map_cons, List.any_cons, any_strs r]
  have : PyData.eqv (.str x) (.str w) = decide (x = w) := by
   show (x == w) = _
   (rw [Bool.eq_iff_iff, beq_iff_eq, decide_eq_true_eq])
  rw [this, Bool.eq_iff_iff, Bool.or_eq_true, decide_eq_true_eq, decide_eq_true_eq, decide_eq_true_eq, List.mem_cons]
  exact ⟨fun h => h.imp Eq.symm id, fun h => h.imp Eq.symm id⟩
theorem all_strs {ss : List Str} (h : ∀ x ∈ ss, okD (.str x) = true) : (ss.map PyData.str).all okD = true := by
 rw [List.all_eq_true]
 intro d hd
 obtain ⟨x, hx, rfl⟩ := List.mem_map.mp hd
 exact h x hx
theorem gIn_tupS {w : Str} {ss : List Str} {s : S} (h1 : okD (.str w) = true) (h2 : ∀ x ∈ ss, okD (.str x) = true) : gIn (.str w) (.tup (ss.map PyData.str)) s = .ok (.bl (decide (w ∈ ss))) s := by
 show (if okD (.str w) = true /\ (ss.map PyData.str).all okD = true then R.ok (D.bl (nb false ((ss.map PyData.str).any fun d => PyData.eqv d (.str w)))) s else .bad) = _
 rw [if_pos ⟨h1, all_strs h2⟩, any_strs]; rfl
theorem gIn_lit {w : Str} (ss : List Str) {l : List PyData} {b : Bool} (e : l = ss.map PyData.str) (h : okD (.str w) = true /\ (∀ x ∈ ss, okD (.str x) = true) /\ decide (w ∈ ss) = b) (s : S) : gIn (.str w) (.tup l) s = .ok (.bl b) s := by
 subst e
 rw [gIn_tupS h.1 h.2.1, h.2.2]
theorem okD_port {x : Str} (h : okPort x = true) : okD (.str x) = true := (nice_str h).okD (by decide)
inductive PartD (m : Int) (ps : List Str) : PyData -> List Str -> Prop
 | two {w a b : Str} : w ∈ (["both", "loose", "drain", "either"] : List Str) -> a ∈ ps -> b ∈ ps -> a ≠ b -> PartD m ps (.tuple [.str w, .str a, .str b]) [a, b]
 | held {w a b : Str} {x : PyData} : w ∈ (["place", "last"] : List Str) -> a ∈ ps -> b ∈ ps -> a ≠ b -> (x = .none \/ ∃ i, x = .int i /\ 0 <= i /\ i < m) -> PartD m ps (.tuple [.str w, .str a, .str b, x]) [a, b]
 | only {a b : Str} {ts : List Int} : a ∈ ps -> b ∈ ps -> a ≠ b -> (∀ t ∈ ts, 0 <= t /\ t < m) -> ts.length <= m -> PartD m ps (.tuple [.str "only", .str a, .str b, .tuple (ts.map .int)]) [a, b]
 | copy {a : Str} {bs : List Str} : a ∈ ps -> (∀ b ∈ bs, b ∈ ps) -> bs.length <= 4 -> (a :: bs).Nodup -> PartD m ps (.tuple [.str "copy", .str a, .tuple (bs.map .str)]) (a :: bs)
 | merge {a : Str} {bs : List Str} : a ∈ ps -> (∀ b ∈ bs, b ∈ ps) -> bs.length <= 4 -> (a :: bs).Nodup -> PartD m ps (.tuple [.str "merge", .tuple (bs.map .str), .str a]) (bs ++ [a])
noncomputable def words : List Str := ["both", "loose", "place", "last", "drain", "either", "only", "copy", "merge", "place"]
structure WordIs (w : Str) (b1 b2 b3 b4 : Bool) : Prop where
 i1 : ∀ s, gIn (.str w) (.tup [.str "copy", .str "merge"]) s = .ok (.bl b1) s
 i2 : ∀ s, gEq (.str w) (.str "copy") s = .ok (.bl b2) s
 i3 : ∀ s, gIn (.str w) (.tup [.str "place", .str "last"]) s = .ok (.bl b3) s
 i4 : ∀ s, gEq (.str w) (.str "only") s = .ok (.bl b4) s
 i5 : (b1 = true /\ b2 = true /\ w = "copy") \/ (b1 = true /\ b2 = false /\ w = "merge") \/ (b1 = false /\ b3 = true /\ w ∈ (["place", "last"] : List Str)) \/ (b1 = false /\ b3 = false /\ b4 = true /\ w = "only") \/ (b1 = false /\ b3 = false /\ b4 = false /\ w ∈ (["both", "loose", "drain", "either"] : List Str))
theorem word_is (w : Str) (h : w ∈ words) : ∃ b1 b2 b3 b4, WordIs w b1 b2 b3 b4 := by
 have h : w = "both" \/ w = "loose" \/ w = "place" \/ w = "last" \/ w = "drain" \/ w = "either" \/ w = "only" \/ w = "copy" \/ w = "merge" \/ w = "place" := by simpa [words] using h
 rcases h with rfl | rfl | rfl | rfl | rfl | rfl | rfl | rfl | rfl | rfl
 ·exact ⟨false, false, false, false, gIn_lit ["copy", "merge"] rfl (by decide +kernel), gEq_lit (by decide +kernel), gIn_lit ["place", "last"] rfl (by decide +kernel), gEq_lit (by decide +kernel), by decide⟩
 ·exact ⟨false, false, false, false, gIn_lit ["copy", "merge"] rfl (by decide +kernel), gEq_lit (by decide +kernel), gIn_lit ["place", "last"] rfl (by decide +kernel), gEq_lit (by decide +kernel), by decide⟩
 ·exact ⟨false, false, true, false, gIn_lit ["copy", "merge"] rfl (by decide +kernel), gEq_lit (by decide +kernel), gIn_lit ["place", "last"] rfl (by decide +kernel), gEq_lit (by decide +kernel), by decide⟩
 ·exact ⟨false, false, true, false, gIn_lit ["copy", "merge"] rfl (by decide +kernel), gEq_lit (by decide +kernel), gIn_lit ["place", "last"] rfl (by decide +kernel), gEq_lit (by decide +kernel), by decide⟩
 ·exact ⟨false, false, false, false, gIn_lit ["copy", "merge"] rfl (by decide +kernel), gEq_lit (by decide +kernel), gIn_lit ["place", "last"] rfl (by decide +kernel), gEq_lit (by decide +kernel), by decide⟩
 ·exact ⟨false, false, false, false, gIn_lit ["copy", "merge"] rfl (by decide +kernel), gEq_lit (by decide +kernel), gIn_lit ["place", "last"] rfl (by decide +kernel), gEq_lit (by decide +kernel), by decide⟩
 ·exact ⟨false, false, false, true, gIn_lit ["copy", "merge"] rfl (by decide +kernel), gEq_lit (by decide +kernel), gIn_lit ["place", "last"] rfl (by decide +kernel), gEq_lit (by decide +kernel), by decide⟩
 ·exact ⟨true, true, false, false, gIn_lit ["copy", "merge"] rfl (by decide +kernel), gEq_lit (by decide +kernel), gIn_lit ["place", "last"] rfl (by decide +kernel), gEq_lit (by decide +kernel), by decide⟩
 ·exact ⟨true, false, false, false, gIn_lit ["copy", "merge"] rfl (by decide +kernel), gEq_lit (by decide +kernel), gIn_lit ["place", "last"] rfl (by decide +kernel), gEq_lit (by decide +kernel), by decide⟩
 ·exact ⟨false, false, true, false, gIn_lit ["copy", "merge"] rfl (by decide +kernel), gEq_lit (by decide +kernel), gIn_lit ["place", "last"] rfl (by decide +kernel), gEq_lit (by decide +kernel), by decide⟩
theorem ix_map {α : Type} {f : α -> PyData} {l : List α} {k : Nat} {x : α} {s : S} (h : l[k]? = some x) : gIx (.lst (l.map f)) (.int (k : Int)) s = .ok (.da (f x)) s := gIx_lst (map_ix h)
theorem ix_lit {l : List PyData} {i : Int} {x : PyData} {s : S} (k : Nat) (hi : i = (k : Int)) (h : l[k]? = some x) : gIx (.lst l) (.int i) s = .ok (.da x) s := by subst hi; exact gIx_lst h
theorem cut_mid {α : Type} (l : List α) (a b : Nat) : cutL l (some (a : Int)) (some (b : Int)) = (l.drop a).take (min b l.length - min a l.length) := by
 unfold cutL
 rw [HT.sIx_nat, HT.sIx_nat]
 by_cases h : a <= l.length
 ·rw [Nat.min_eq_left h]
 ·rw [List.drop_eq_nil_of_le (by omega), List.drop_eq_nil_of_le (by omega)]
theorem perm_map {α β : Type} {f : α -> β} {l : List α} : ∀ {ys : List β}, ys.Perm (l.map f) -> ∃ qs : List α, qs.Perm l /\ qs.map f = ys := by
 intro ys h
 generalize hz : l.map f = zs at h
 induction h generalizing l with
 | nil =>
  cases l with
  | nil => exact ⟨[], .refl _, rfl⟩
  | cons a b => cases hz
 | cons x h ih =>
  cases l with
  | nil => cases hz
  | cons a b =>
   cases hz
   obtain ⟨qs, p, e⟩ := ih rfl
   exact ⟨a :: qs, p.cons a, by rw [List.map_cons, e]⟩
 | swap x y r =>
  match l, hz with
  | a :: b :: c, hz =>
   cases hz
   exact ⟨b :: a :: c, .swap _ _ _, rfl⟩
 | trans h1 h2 ih1 ih2 =>
  obtain ⟨q2, p2, e2⟩ := ih2 hz
  obtain ⟨q1, p1, e1⟩ := ih1 e2
  exact ⟨q1, p1.trans p2, e1⟩
structure OnlyJ (s0 : S) (n c : Nat) (m : Int) (r acc : List D) (s : S) : Prop where
 ex : ∃ ts : List Int, acc = ts.map D.int /\ (∀ t ∈ ts, 0 <= t /\ t < m) /\ ts.length + r.length <= m /\ (∀ d ∈ r, ∃ i, d = D.int i /\ 0 <= i /\ i < m) /\ ∃ c', Fd s n c' /\ c' + r.length <= c + m.toNat /\ Same n s0 s
theorem rng_mem {lo : Int} {k : Nat} : ∀ d ∈ rngD lo k, ∃ i, d = D.int i /\ lo <= i /\ i < lo + k := by
 intro d hd
 obtain ⟨j, hj, e⟩ := List.getElem_of_mem hd
 have hj' : j < k := by rw [rng_len] at hj; exact hj
 have := rng_get k lo j hj'
 rw [List.getElem?_eq_getElem hj, e] at this
 exact ⟨lo + j, Option.some.inj this, by omega, by omega⟩
theorem part_ok {s : S} {n c : Nat} {m : Int} {ps : List Str} (h : Fd s n c) (hm : 1 <= m) (hm3 : m <= 3) (hp : 2 <= ps.length) (hp8 : ps.length <= 8) (nd : ps.Nodup) (hc : c + ps.length + 10 < 2 ^ 40) :
  (F_law_part [.ref n, .int m, .lst (ps.map PyData.str)] s).W fun d s' => ∃ p qs, d = .da p /\ PartD m ps p qs /\ Fd s' n (c + ps.length + 5) /\ Same n s s' := by
 rw [e_law_part]; unfold B_law_part
 walk_at "go"
 refine R.W_mono (shuf_ok h (by rw [List.length_map]; omega) (by rw [List.length_map]; omega)) ?_
 rintro _ s1 ⟨ys, rfl, pm, fd1, sm1⟩
 obtain ⟨qs, pmq, rfl⟩ : ∃ qs : List Str, qs.Perm ps /\ qs.map PyData.str = ys := by
  exact perm_map pm
 have ql := pmq.length_eq
 rw [List.length_map] at fd1
 walk_at "go"
 refine R.W_mono (draw_ok fd1 (by decide) (by decide) (by omega)) ?_
 rintro _ s2 ⟨i, rfl, h0, h1, fd2, sm2⟩
 obtain ⟨k, rfl⟩ : ∃ k : Nat, i = (k : Int) := ⟨i.toNat, by omega⟩
 have hk : k < words.length := by show k < 10; omega
 obtain ⟨b1, b2, b3, b4, W⟩ := word_is words[k] (List.getElem_mem hk)
 generalize hw : words[k] = w at W
 walk_at "go"
 rw [show gIx (.lst [.str "both", .str "loose", .str "place", .str "last", .str "drain", .str "either", .str "only", .str "copy", .str "merge", .str "place"]) (.int (k : Int)) s2 = .ok (.str w) s2 from ix_map (f := PyData.str) (l := words) (x := w) (by rw [List.getElem?_eq_getElem hk, hw])]
 walk_at "ev"
 rw [W.i1]
 obtain ⟨q0, q1, qr, rfl⟩ : ∃ q0 q1 qr, qs = q0 :: q1 :: qr := by
  match qs, ql with
  | [], e => simp at e; omega
  | [_], e => simp at e; omega
  | a :: b :: c, _ => exact ⟨a, b, c, rfl⟩
 have nq : (q0 :: q1 :: qr).Nodup := pmq.nodup_iff.mpr nd
 have m0 : q0 ∈ ps := pmq.mem_iff.mp (by simp)
 have n01 : q0 ≠ q1 := by simp at nq; exact nq.1.1
 have m1 : q1 ∈ ps := pmq.mem_iff.mp (by simp)
 have x0 : ∀ s : S, gIx (.lst ((q0 :: q1 :: qr).map PyData.str)) (.int 0) s = .ok (.str q0) s := fun s => ix_lit 0 rfl rfl
 have x1 : ∀ s : S, gIx (.lst ((q0 :: q1 :: qr).map PyData.str)) (.int 1) s = .ok (.str q1) s := fun s => ix_lit 1 rfl rfl
 have many : b1 = true -> ∀ Q : D -> S -> Prop, (∀ (bs : List Str) (s3 : S), bs.length <= 4 -> (∀ b ∈ bs, b ∈ ps) -> (q0 :: bs).Nodup -> Fd s3 n (c + ps.length + 2) -> Same n s s3 -> Q (.tup (bs.map PyData.str)) s3) ->
   (fCB gTuple (fCons (fSl false (fVar 3) (fSome (fC (D.da (PyData.int 1)))) (fSome (fOp (gAdd false) (fC (D.da (PyData.int 2))) (fCall 2 F_law_draw (fCons (fVar 0) (fCons (fCB gMin (fCons (fC (D.da (PyData.int 4))) (fCons (fOp PF.gSub (fCB gLen (fCons (fVar 3) fNil)) (fC (D.da (PyData.int 1)))) fNil))) fNil)))))) fNil)
    [some (.ref n), some (.int m), some (.lst (ps.map PyData.str)), some (.lst ((q0 :: q1 :: qr).map PyData.str)), some (.str w), none] s2).W Q := fun _ Q hQ => by
  walk_at "go"
  refine R.W_mono (draw_ok fd2 (by rw [List.length_map, ql]; split <;> omega) (by rw [List.length_map, ql]; split <;> omega) (by omega)) ?_
  rintro _ s3 ⟨j, rfl, j0, j1, fd3, sm3⟩
  obtain ⟨t, rfl⟩ : ∃ t : Nat, j = (t : Int) := ⟨j.toNat, by omega⟩
  walk_at "go"
  have e2 : (2 : Int) + (t : Int) = ((2 + t : Nat) : Int) := by omega
  have e1 : (1 : Int) = ((1 : Nat) : Int) := rfl
  rw [e2, e1, cutL_map, cut_mid]
  have tb : t < 4 := by
   rw [List.length_map, ql] at j1
   split at j1 <;> omega
  refine hQ _ s3 ?_ ?_ ?_ fd3 (sm1.trans (sm2.trans sm3))
  ·rw [List.length_take]; omega
  ·intro b hb
   exact pmq.mem_iff.mp (List.mem_of_mem_drop (List.mem_of_mem_take hb))
  ·have : (q0 :: ((q0 :: q1 :: qr).drop 1).take (min (2 + t) (q0 :: q1 :: qr).length - min 1 (q0 :: q1 :: qr).length)).Sublist (q0 :: q1 :: qr) := (List.take_sublist _ _).cons₂ q0
   exact this.nodup nq
 clear hw hk
 rcases W.i5 with ⟨rfl, rfl, rfl⟩ | ⟨rfl, rfl, rfl⟩ | ⟨rfl, rfl, hw⟩ | ⟨rfl, rfl, rfl, rfl⟩ | ⟨rfl, rfl, rfl, hw⟩
 ·simp only [R.W_ok', R.Wk_app, e_test1, e_ifT, e_seq, e_set, R.W_bindk]
  refine many rfl _ fun bs s3 hl hb hnd fd3 sm3 => ?_
  walk_at "go"
  rw [W.i2]
  walk_at "go"
  rw [x0]
  walk_at "go"
  exact ⟨_, _, rfl, .copy m0 hb hl hnd, fd3.le (by omega), sm3⟩
 ·simp only [R.W_ok', R.Wk_app, e_test1, e_ifT, e_seq, e_set, R.W_bindk]
  refine many rfl _ fun bs s3 hl hb hnd fd3 sm3 => ?_
  walk_at "go"
  rw [W.i2]
  walk_at "go"
  rw [x0]
  walk_at "go"
  exact ⟨_, _, rfl, .merge m0 hb hl hnd, fd3.le (by omega), sm3⟩
 ·walk_at "go"
  rw [W.i3]
  walk_at "go"
  rw [x0]
  walk_at "go"
  rw [x1]
  walk_at "go"
  refine R.W_mono (draw_ok fd2 (by decide) (by decide) (by omega)) ?_
  rintro _ s3 ⟨j, rfl, j0, j1, fd3, sm3⟩
  obtain ⟨x, hx, hx2⟩ : ∃ x : PyData, (x = .none \/ ∃ i, x = .int i /\ 0 <= i /\ i < m) /\ ∀ s : S, gIx (.lst [.none, .none, .int 0, .int (m - 1)]) (.int j) s = .ok (.da x) s := by
   have : j = 0 \/ j = 1 \/ j = 2 \/ j = 3 := by omega
   rcases this with rfl | rfl | rfl | rfl
   ·exact ⟨_, .inl rfl, fun s => ix_lit 0 rfl rfl⟩
   ·exact ⟨_, .inl rfl, fun s => ix_lit 1 rfl rfl⟩
   ·exact ⟨_, .inr ⟨0, rfl, by omega, by omega⟩, fun s => ix_lit 2 rfl rfl⟩
   ·exact ⟨_, .inr ⟨m - 1, rfl, by omega, by omega⟩, fun s => ix_lit 3 rfl rfl⟩
  walk_at "go"
  rw [hx2]
  walk_at "go"
  exact ⟨_, _, rfl, .held hw m0 m1 n01 hx, fd3.le (by omega), sm1.trans (sm2.trans sm3)⟩
 ·walk_at "go"
  rw [W.i3]
  walk_at "go"
  rw [W.i4]
  walk_at "go"
  rw [x0]
  walk_at "go"
  rw [x1]
  walk_at "go"
  rw [rng_ok (by omega) (by omega)]
  walk_at "go"
  rw [e_lc1 (ρ0 := [none, some (D.ref n)]) (by rw [rng_len]; omega) rfl]
  simp only [R.W_bindk]
  refine R.W_mono (comp_inv (acc := []) (Q := fun xs s' => ∃ ts : List Int, xs = ts.map D.int /\ (∀ t ∈ ts, 0 <= t /\ t < m) /\ ts.length <= m /\ Fd s' n (c + ps.length + 1 + m.toNat) /\ Same n s s') (OnlyJ s n (c + ps.length + 1) m) ?_ ?_ _ _ ?_) ?_
  ·rintro d r acc s3 ⟨ts, rfl, ht, hl, hr, c', fd3, hcc, sm3⟩
   obtain ⟨i, rfl, i0, i1⟩ := hr d List.mem_cons_self
   rw [List.length_cons] at hl hcc
   refine ⟨_, l_nm0, ?_⟩
   walk_at "go"
   refine R.W_mono (draw_ok fd3 (by decide) (by decide) (by omega)) ?_
   rintro _ s4 ⟨j, rfl, j0, j1, fd4, sm4⟩
   walk_at "go"
   split
   ·refine ⟨ts ++ [i], by simp, fun t h => ?_, by simp; omega, fun d hd => hr d (List.mem_cons_of_mem _ hd), c' + 1, fd4, by omega, sm3.trans sm4⟩
    rcases List.mem_append.mp h with z | z
    ·exact ht t z
    ·have : t = i := by simpa using z
     subst this; exact ⟨i0, i1⟩
   ·exact ⟨ts, rfl, ht, by omega, fun d hd => hr d (List.mem_cons_of_mem _ hd), c' + 1, fd4, by omega, sm3.trans sm4⟩
  ·rintro acc s3 ⟨ts, rfl, ht, hl, hr, c', fd3, hcc, sm3⟩
   simp only [List.length_nil] at hl hcc
   exact ⟨ts, rfl, ht, by omega, fd3.le (by omega), sm3⟩
  ·refine ⟨[], rfl, fun t h => (by cases h), by rw [rng_len]; simp; omega, fun d hd => ?_, c + ps.length + 1, fd2, by rw [rng_len]; omega, sm1.trans sm2⟩
   obtain ⟨i, e, i0, i1⟩ := rng_mem d hd
   exact ⟨i, e, i0, by omega⟩
  ·rintro xs s3 ⟨ts, e, ht, hl, fd3, sm3⟩
   rw [List.nil_append] at e
   subst e
   rw [show ts.map D.int = (ts.map PyData.int).map D.da by rw [List.map_map]; rfl]
   walk_at "go"
   exact ⟨_, _, rfl, .only m0 m1 n01 ht hl, fd3.le (by omega), sm3⟩
 ·walk_at "go"
  rw [W.i3]
  walk_at "go"
  rw [W.i4]
  walk_at "go"
  rw [x0]
  walk_at "go"
  rw [x1]
  walk_at "go"
  exact ⟨_, _, rfl, .two hw m0 m1 n01, fd2.le (by omega), sm1.trans sm2⟩
end Ln
namespace Ln
open PySem L2 PF
noncomputable def oD : Option Int -> PyData
 | none => .none
 | some i => .int i
noncomputable def rwD (r : List (Option Int)) : PyData := .tuple (r.map oD)
theorem eqv_oD : ∀ a b : Option Int, PyData.eqv (oD a) (oD b) = decide (a = b)
 | none, none => rfl
 | none, some _ => rfl
 | some _, none => rfl
 | some i, some j => by
  show (i == j) = _
  rw [Bool.eq_iff_iff, beq_iff_eq, decide_eq_true_eq, Option.some.injEq]
theorem eqvs_oD : ∀ a b : List (Option Int), PyData.eqvAll (a.map oD) (b.map oD) = decide (a = b)
 | [], [] => rfl
 | [], _ :: _ => rfl
 | _ :: _, [] => rfl
 | x :: r, y :: t => by
  show (PyData.eqv (oD x) (oD y) && PyData.eqvAll (r.map oD) (t.map oD)) = _
  rw [eqv_oD, eqvs_oD r t, Bool.eq_iff_iff, Bool.and_eq_true, decide_eq_true_eq, decide_eq_true_eq, decide_eq_true_eq, List.cons.injEq]
theorem okD_oD (a : Option Int) : okD (oD a) = true := by cases a <;> rfl
theorem isN_oD (a : Option Int) : isN (.da (oD a)) = decide (a = none) := by cases a <;> rfl
structure RowK (n : Nat) (r : List (Option Int)) : Prop where
 len : r.length = n
 ok : ∀ i, some i ∈ r -> 0 <= i /\ i < 3
theorem nice_oD {a : Option Int} (h : ∀ i, a = some i -> 0 <= i /\ i < 3) : Nice 0 0 (oD a) := by
 cases a with
 | none => exact nice_none
 | some i => have := h i rfl; exact nice_int (by omega)
theorem RowK.nice {n : Nat} {r : List (Option Int)} (h : RowK n r) : Nice n 1 (rwD r) := by
 have := nices_all (B := 0) (D := 0) (r.map oD) (by
  intro d hd
  obtain ⟨a, ha, rfl⟩ := List.mem_map.mp hd
  exact nice_oD fun i e => h.ok i (e ▸ ha))
 have t := this.tup
 rw [List.length_map, h.len, Nat.zero_add, Nat.one_mul] at t
 exact t
theorem RowK.okD {n : Nat} {r : List (Option Int)} (h : RowK n r) : okD (rwD r) = true := h.nice.okD (by decide)
theorem gEq_o {a b : Option Int} {s : S} : gEq (.da (oD a)) (.da (oD b)) s = .ok (.bl (decide (a = b))) s := by rw [gEq_da (okD_oD a) (okD_oD b), eqv_oD]
inductive Kd
 | both | loose | drain | either | only (ts : List Int) | place | last | copy | merge
noncomputable def letB (k : Kd) (h : Option Int) (r : List (Option Int)) : Bool := match k with
 | .both => match r with
  | [x, y] => decide (x = y)
  | _ => false
 | .only ts => match r with
  | [x, y] => decide (x = y) && (decide (x = none) || ts.any fun t => decide (some t = x))
  | _ => false
 | .loose => match r with
  | [x, y] => decide (y = none) || decide (x = y)
  | _ => false
 | .drain => match r with
  | [x, y] => decide (x = none) == decide (y = none)
  | _ => false
 | .either => match r with
  | [x, y] => decide (x = none) || decide (y = none)
  | _ => false
 | .place => match r with
  | [x, y] => if h = none then decide (y = none) else decide (x = none) && (decide (y = none) || decide (y = h))
  | _ => false
 | .last => match r with
  | [_, y] => decide (y = none) || decide (y = h)
  | _ => false
 | .copy => r.all fun x => decide (x = r.headD none)
 | .merge => decide (r.dropLast.filter (fun x => !decide (x = none)) = if r.getLastD none = none then [] else [r.getLastD none])
inductive KW : Str -> Kd -> List PyData -> Prop
 | both : KW "both" .both []
 | loose : KW "loose" .loose []
 | drain : KW "drain" .drain []
 | either : KW "either" .either []
 | place (x : PyData) : KW "place" .place [x]
 | last (x : PyData) : KW "last" .last [x]
 | only (ts : List Int) : KW "only" (.only ts) [.tuple (ts.map .int)]
inductive PtD : PyData -> Kd -> List Str -> Prop
 | two {w a b : Str} {k : Kd} {r : List PyData} : KW w k r -> PtD (.tuple (.str w :: .str a :: .str b :: r)) k [a, b]
 | copy {a : Str} {bs : List Str} : PtD (.tuple [.str "copy", .str a, .tuple (bs.map .str)]) .copy (a :: bs)
 | merge {a : Str} {bs : List Str} : PtD (.tuple [.str "merge", .tuple (bs.map .str), .str a]) .merge (bs ++ [a])
structure PtK (p : PyData) (k : Kd) (qs : List Str) : Prop where
 pd : PtD p k qs
 nd : qs.Nodup
 ok : ∀ x ∈ qs, okPort x = true
 len : qs.length <= 13
 nice : Nice 400 2 p
theorem KW.ne {w : Str} {k : Kd} {r : List PyData} (h : KW w k r) : w ≠ "copy" /\ w ≠ "merge" /\ w ≠ "net" := by
 cases h <;> decide +kernel
theorem PtK.of {m : Int} {ps : List Str} {p : PyData} {qs : List Str} (hm : m <= 3) (ok : ∀ x ∈ ps, okPort x = true) (h : PartD m ps p qs) : ∃ k, PtK p k qs := by
 have ww : ∀ w ∈ (["both", "loose", "drain", "either", "place", "last", "only", "copy", "merge"] : List Str), okPort w = true := by decide +kernel
 cases h with
 | @two w a b hw ha hb hn =>
  have z : ∃ k, KW w k [] := by
   have hw : w = "both" \/ w = "loose" \/ w = "drain" \/ w = "either" := by simpa using hw
   rcases hw with rfl | rfl | rfl | rfl
   ·exact ⟨_, .both⟩
   ·exact ⟨_, .loose⟩
   ·exact ⟨_, .drain⟩
   ·exact ⟨_, .either⟩
  obtain ⟨k, hk⟩ := z
  refine ⟨k, .two hk, by simp [hn], fun x hx => ?_, by simp, ?_⟩
  ·have : x = a \/ x = b := by simpa using hx
   rcases this with rfl | rfl
   ·exact ok _ ha
   ·exact ok _ hb
  ·refine (Nices.cons (nice_str (ww w ?_)) (Nices.cons (nice_str (ok _ ha)) (Nices.cons (nice_str (ok _ hb)) Nices.nil))).tup.mono (by omega) (by omega)
   have hw : w = "both" \/ w = "loose" \/ w = "drain" \/ w = "either" := by simpa using hw
   rcases hw with rfl | rfl | rfl | rfl <;> simp
 | @held w a b x hw ha hb hn hx =>
  have z : ∃ k, KW w k [x] := by
   have hw : w = "place" \/ w = "last" := by simpa using hw
   rcases hw with rfl | rfl
   ·exact ⟨_, .place x⟩
   ·exact ⟨_, .last x⟩
  obtain ⟨k, hk⟩ := z
  refine ⟨k, .two hk, by simp [hn], fun x hx => ?_, by simp, ?_⟩
  ·have : x = a \/ x = b := by simpa using hx
   rcases this with rfl | rfl
   ·exact ok _ ha
   ·exact ok _ hb
  ·refine (Nices.cons (nice_str (ww w ?_)) (Nices.cons (nice_str (ok _ ha)) (Nices.cons (nice_str (ok _ hb)) (Nices.cons (B := 0) ?_ Nices.nil)))).tup.mono (by omega) (by omega)
   ·have hw : w = "place" \/ w = "last" := by simpa using hw
    rcases hw with rfl | rfl <;> simp
   ·rcases hx with rfl | ⟨i, rfl, h0, h1⟩
    ·exact nice_none
    ·exact nice_int (by omega)
 | @only a b ts ha hb hn ht hl =>
  refine ⟨_, .two (.only ts), by simp [hn], fun x hx => ?_, by simp, ?_⟩
  ·have : x = a \/ x = b := by simpa using hx
   rcases this with rfl | rfl
   ·exact ok _ ha
   ·exact ok _ hb
  ·have nt : Nices ((0 + 1) * (ts.map PyData.int).length) 0 (ts.map PyData.int) := nices_all _ fun d hd => by
    obtain ⟨t, h1, rfl⟩ := List.mem_map.mp hd
    have := ht t h1
    exact nice_int (by omega)
   rw [List.length_map] at nt
   refine (Nices.cons ((nice_str (ww _ (by simp))).mono (Nat.le_refl _) (Nat.zero_le 1)) (Nices.cons ((nice_str (ok _ ha)).mono (Nat.le_refl _) (Nat.zero_le 1)) (Nices.cons ((nice_str (ok _ hb)).mono (Nat.le_refl _) (Nat.zero_le 1)) (Nices.cons nt.tup Nices.nil)))).tup.mono (by omega) (by omega)
 | @copy a bs ha hb hl hn =>
  refine ⟨_, .copy, hn, fun x hx => ?_, by simp; omega, ?_⟩
  ·rcases List.mem_cons.mp hx with rfl | z
   ·exact ok _ ha
   ·exact ok _ (hb _ z)
  ·have nt := (nices_strs bs fun x hx => ok x (hb x hx)).tup
   refine (Nices.cons ((nice_str (ww _ (by simp))).mono (Nat.le_refl _) (Nat.zero_le 1)) (Nices.cons ((nice_str (ok _ ha)).mono (Nat.le_refl _) (Nat.zero_le 1)) (Nices.cons nt Nices.nil))).tup.mono (by omega) (by omega)
 | @merge a bs ha hb hl hn =>
  refine ⟨_, .merge, ?_, fun x hx => ?_, by simp; omega, ?_⟩
  ·exact (List.perm_append_comm (l₁ := bs) (l₂ := [a])).nodup_iff.mpr hn
  ·rcases List.mem_append.mp hx with z | z
   ·exact ok _ (hb _ z)
   ·have : x = a := by simpa using z
    subst this; exact ok _ ha
  ·have nt := (nices_strs bs fun x hx => ok x (hb x hx)).tup
   refine (Nices.cons ((nice_str (ww _ (by simp))).mono (Nat.le_refl _) (Nat.zero_le 1)) (Nices.cons nt (Nices.cons ((nice_str (ok _ ha)).mono (Nat.le_refl _) (Nat.zero_le 1)) Nices.nil))).tup.mono (by omega) (by omega)
theorem cut13 {a b c : PyData} {r : List PyData} : cutL (a :: b :: c :: r) (some 1) (some 3) = [b, c] := by
 have := cut_mid (a :: b :: c :: r) 1 3
 rw [show ((1 : Nat) : Int) = 1 from rfl, show ((3 : Nat) : Int) = 3 from rfl] at this
 rw [this]
 simp only [List.length_cons, List.drop_succ_cons, List.drop_zero]
 rw [Nat.min_eq_left (by omega), Nat.min_eq_left (by omega)]
 rfl
theorem w_cm : (decide (("copy" : Str) = "merge") = false /\ decide (("merge" : Str) = "copy") = false /\ decide (("copy" : Str) = "net") = false /\ decide (("merge" : Str) = "net") = false) := by decide +kernel
theorem ports_of_ok {p : PyData} {k : Kd} {qs : List Str} (h : PtK p k qs) (s : S) : Fports_of [.da p] s = .ok (.tup (qs.map .str)) s := by
 obtain ⟨w1, w2, w3, w4⟩ := w_cm
 have hl := h.len
 rw [eports_of]; unfold Bports_of
 cases h.pd with
 | two hw =>
  obtain ⟨n1, n2, n3⟩ := hw.ne
  simp [it0, gEq_s, n1, n2, n3, cut13]
 | @copy a bs =>
  simp at hl
  simp [it0, it1, it2, gEq_s, gAdd_tup (xs := [.str a]) (ys := bs.map PyData.str) (s := s) (m := false) (by simp; omega)]
 | @merge a bs =>
  simp at hl
  simp [it0, it1, it2, gEq_s, w2, gAdd_tup (xs := bs.map PyData.str) (ys := [.str a]) (s := s) (m := false) (by simp; omega)]
theorem lports_ok {p : PyData} {k : Kd} {qs : List Str} (h : PtK p k qs) (s : S) : F_law_part_ports [.da p] s = .ok (.tup (qs.map .str)) s := by
 obtain ⟨w1, w2, w3, w4⟩ := w_cm
 have hl := h.len
 rw [e_law_part_ports]; unfold B_law_part_ports
 cases h.pd with
 | two hw =>
  obtain ⟨n1, n2, n3⟩ := hw.ne
  simp [it0, gEq_s, n1, n2, n3, cut13]
 | @copy a bs =>
  simp at hl
  simp [it0, it1, it2, gEq_s, w3, gAdd_tup (xs := [.str a]) (ys := bs.map PyData.str) (s := s) (m := false) (by simp; omega)]
 | @merge a bs =>
  simp at hl
  simp [it0, it1, it2, gEq_s, w2, w4, gAdd_tup (xs := bs.map PyData.str) (ys := [.str a]) (s := s) (m := false) (by simp; omega)]
end Ln
namespace Ln
open PySem L2 PF
noncomputable def pr (p : Str × Int) : PyData := .tuple [.str p.1, .int p.2]
noncomputable def rowP (qs : List Str) (r : List (Option Int)) : List (Str × Int) := (qs.zip r).filterMap fun p => p.2.map fun i => (p.1, i)
theorem row_pairs : ∀ l : List (Str × Option Int), ((l.filter fun p => !decide (p.2 = none)).map fun p => PyData.tuple [.str p.1, oD p.2]) = (l.filterMap fun p => p.2.map fun i => (p.1, i)).map pr
 | [] => rfl
 | (q, none) :: r => by
  rw [List.filter_cons_of_neg (by simp), List.filterMap_cons_none (by rfl)]
  exact row_pairs r
 | (q, some i) :: r => by
  rw [List.filter_cons_of_pos (by simp), List.filterMap_cons_some (b := (q, i)) (by rfl), List.map_cons, List.map_cons, row_pairs r]
  rfl
theorem lt_pr (p q : Str × Int) : (ltP (pr p) (pr q)).isSome = true := by
 unfold pr
 simp only [ltP, ltPs]
 repeat (first | rfl | split)
theorem cmpb_pr (l : List (Str × Int)) : cmpb (l.map pr) = true := by
 unfold cmpb
 rw [List.all_eq_true]
 intro a ha
 obtain ⟨p, _, rfl⟩ := List.mem_map.mp ha
 rw [Bool.and_eq_true, List.all_eq_true]
 refine ⟨by unfold pr; simp [plD, plDs], fun b hb => ?_⟩
 obtain ⟨q, _, rfl⟩ := List.mem_map.mp hb
 exact lt_pr p q
theorem nice_pr {p : Str × Int} (h : okPort p.1 = true) (h0 : 0 <= p.2) (h1 : p.2 < 3) : Nice 22 1 (pr p) :=
 (Nices.cons (nice_str h) (Nices.cons (nice_int (by omega)) Nices.nil)).tup.mono (by omega) (by omega)
structure MomK (qs : List Str) (r : List (Option Int)) (m : PyData) : Prop where
 ex : ∃ P : List (Str × Int), m = .tuple (P.map pr) /\ P.length <= 17 /\ (∀ (j : Nat) (q : Str), qs[j]? = some q -> (r[j]? = some none -> ∀ p ∈ P, p.1 ≠ q) /\ ∀ i, r[j]? = some (some i) -> (q, i) ∈ P /\ ∀ p ∈ P, p.1 = q -> p.2 = i) /\ ∀ p ∈ P, okPort p.1 = true /\ 0 <= p.2 /\ p.2 < 3
theorem MomK.nice {qs : List Str} {r : List (Option Int)} {m : PyData} (h : MomK qs r m) : Nice 400 2 m := by
 obtain ⟨P, rfl, hl, _, ho⟩ := h.ex
 have := nices_all (B := 22) (D := 1) (P.map pr) (by
  intro d hd
  obtain ⟨p, hp, rfl⟩ := List.mem_map.mp hd
  obtain ⟨a, b, c⟩ := ho p hp
  exact nice_pr a b c)
 rw [List.length_map] at this
 exact this.tup.mono (by omega) (Nat.le_refl _)
theorem moment_ok {n : Nat} {qs : List Str} {r : List (Option Int)} {more : List (Str × Int)} (nd : qs.Nodup) (ok : ∀ x ∈ qs, okPort x = true) (hl : qs.length <= 13) (hr : RowK qs.length r) (hm : more.length <= 4) (hn : ∀ p ∈ more, p.1 ∉ qs /\ okPort p.1 = true /\ 0 <= p.2 /\ p.2 < 3) (s : S) :
  (F_law_moment [.tup (qs.map .str), .da (rwD r), .lst (more.map pr)] s).W fun d s' => s' = s /\ ∃ m, d = .da m /\ MomK qs r m := by
 rw [e_law_moment]; unfold B_law_moment rwD
 walk_at "go"
 have ez : ((qs.map PyData.str).zip (r.map oD)).map (fun p => D.tup [p.1, p.2]) = (qs.zip r).map fun p => D.tup [.str p.1, oD p.2] := by
  rw [List.zip_map, List.map_map]
  rfl
 have hz : (qs.zip r).length <= 13 := by rw [List.length_zip]; omega
 rw [ez, e_lc1 (ρ0 := [none, none]) (by rw [List.length_map]; omega) rfl]
 rw [comp_da (fun p : Str × Option Int => D.tup [.str p.1, oD p.2]) (fun p => !decide (p.2 = none)) (fun p => PyData.tuple [.str p.1, oD p.2]) (qs.zip r) (fun p _ => ⟨_, rfl, by simp [isN_oD], fun _ => by simp⟩)]
 rw [row_pairs]
 have hp : (rowP qs r).length <= 13 := Nat.le_trans (List.length_filterMap_le _ _) hz
 walk_at "go"
 rw [show ((qs.zip r).filterMap fun p => p.2.map fun i => (p.1, i)) = rowP qs r from rfl]
 rw [gAdd_lst (by rw [List.length_map, List.length_map]; omega), ← List.map_append]
 walk_at "go"
 have nn : ∀ p ∈ rowP qs r ++ more, okPort p.1 = true /\ 0 <= p.2 /\ p.2 < 3 := by
  intro p hp
  (rcases List.mem_append.mp hp with z | z)
  ·obtain ⟨⟨q, a⟩, hq, e⟩ := List.mem_filterMap.mp z
   cases a with
   | none => cases e
   | some i =>
    cases e
    exact ⟨ok _ (List.of_mem_zip hq).1, hr.ok _ (List.of_mem_zip hq).2⟩
  ·exact (hn p z).2
 rw [sorted_lst (by rw [List.length_map, List.length_append]; omega) (cmpb_pr _) (by
  rw [List.all_eq_true]
  intro d hd
  obtain ⟨p, hp, rfl⟩ := List.mem_map.mp hd
  obtain ⟨a, b, c⟩ := nn p hp
  exact (nice_pr a b c).okD (by decide))]
 walk_at "go"
 obtain ⟨P, pm, e⟩ := perm_map (srtD_perm ((rowP qs r ++ more).map pr))
 refine ⟨trivial, _, rfl, P, by rw [e], ?_, fun j q hq => ⟨fun hj p hp e2 => ?_, fun i hi => ⟨?_, fun p hp e2 => ?_⟩⟩, fun p hp => nn p (pm.mem_iff.mp hp)⟩
 ·rw [pm.length_eq, List.length_append]; omega
 ·have := pm.mem_iff.mp hp
  have hqm : q ∈ qs := List.mem_of_getElem? hq
  rcases List.mem_append.mp this with z | z
  ·obtain ⟨⟨q', a⟩, hq', e3⟩ := List.mem_filterMap.mp z
   obtain ⟨k, hk⟩ := List.getElem?_of_mem hq'
   rw [List.getElem?_zip_eq_some] at hk
   cases a with
   | none => cases e3
   | some i =>
    cases e3
    have hk1 : qs[k]? = some q := by rw [hk.1]; exact congrArg some e2
    have : j = k := by
     have h1 := (List.getElem?_eq_some_iff.mp hq)
     have h2 := (List.getElem?_eq_some_iff.mp hk1)
     exact (List.getElem_inj nd).mp (h1.2.trans h2.2.symm)
    subst this
    have h3 := hk.2
    rw [hj] at h3
    cases h3
  ·exact (hn p z).1 (e2 ▸ hqm)
 ·refine pm.mem_iff.mpr (List.mem_append_left _ (List.mem_filterMap.mpr ⟨(q, some i), ?_, rfl⟩))
  exact List.mem_of_getElem? (i := j) (List.getElem?_zip_eq_some.mpr ⟨hq, hi⟩)
 ·have := pm.mem_iff.mp hp
  have hqm : q ∈ qs := List.mem_of_getElem? hq
  rcases List.mem_append.mp this with z | z
  ·obtain ⟨⟨q', a⟩, hq', e3⟩ := List.mem_filterMap.mp z
   obtain ⟨k, hk⟩ := List.getElem?_of_mem hq'
   rw [List.getElem?_zip_eq_some] at hk
   cases a with
   | none => cases e3
   | some i' =>
    cases e3
    have hk1 : qs[k]? = some q := by rw [hk.1]; exact congrArg some e2
    have : j = k := by
     have h1 := (List.getElem?_eq_some_iff.mp hq)
     have h2 := (List.getElem?_eq_some_iff.mp hk1)
     exact (List.getElem_inj nd).mp (h1.2.trans h2.2.symm)
    subst this
    have h3 := hk.2
    rw [hi] at h3
    cases h3
    rfl
  ·exact ((hn p z).1 (e2 ▸ hqm)).elim
noncomputable def fillG (d : List (PyData × D)) (ps : List (PyData × PyData)) : List (PyData × D) := ps.foldl (fun d p => dPut d p.1 (.da p.2)) d
theorem fill_no : ∀ (ps : List (PyData × PyData)) (d : List (PyData × D)) (k : PyData), (∀ p ∈ ps, p.1 ≠ k) -> dGet (fillG d ps) k = dGet d k
 | [], _, _, _ => rfl
 | p :: r, d, k, h => by
  show dGet (fillG (dPut d p.1 (.da p.2)) r) k = _
  rw [fill_no r _ k fun q hq => h q (List.mem_cons_of_mem _ hq), get_put, if_neg (h p List.mem_cons_self)]
theorem fill_at : ∀ (ps : List (PyData × PyData)) (d : List (PyData × D)) (k v : PyData), (k, v) ∈ ps -> (∀ p ∈ ps, p.1 = k -> p.2 = v) -> dGet (fillG d ps) k = some (.da v)
 | [], _, _, _, m, _ => by cases m
 | p :: r, d, k, v, m, h => by
  show dGet (fillG (dPut d p.1 (.da p.2)) r) k = _
  by_cases z : ∃ q ∈ r, q.1 = k
  ·obtain ⟨q, hq, e⟩ := z
   have : q = (k, v) := by
    have := h q (List.mem_cons_of_mem _ hq) e
    cases q; cases e; cases this; rfl
   exact fill_at r _ k v (this ▸ hq) fun q hq => h q (List.mem_cons_of_mem _ hq)
  ·have hp : p = (k, v) := by
    (rcases List.mem_cons.mp m with e | e)
    ·exact e.symm
    ·exact (z ⟨_, e, rfl⟩).elim
   rw [fill_no r _ k fun q hq e => z ⟨q, hq, e⟩, get_put, hp, if_pos rfl]
theorem fill_keys : ∀ (ps : List (PyData × PyData)) (d : List (PyData × D)), (∀ p ∈ ps, isK p.1 = true) -> (∀ e ∈ d, isK e.1 = true) -> ∀ e ∈ fillG d ps, isK e.1 = true
 | [], _, _, h => h
 | p :: r, d, hp, h => by
  refine fill_keys r (dPut d p.1 (.da p.2)) (fun q hq => hp q (List.mem_cons_of_mem _ hq)) fun e he => ?_
  have : e.1 ∈ (dPut d p.1 (.da p.2)).map (·.1) := List.mem_map.mpr ⟨e, he, rfl⟩
  rw [put_keys] at this
  unfold addK at this
  split at this
  ·obtain ⟨e', he', e2⟩ := List.mem_map.mp this
   rw [← e2]; exact h e' he'
  ·rcases List.mem_append.mp this with z | z
   ·obtain ⟨e', he', e2⟩ := List.mem_map.mp z
    rw [← e2]; exact h e' he'
   ·have : e.1 = p.1 := by simpa using z
    rw [this]; exact hp p List.mem_cons_self
theorem dget1_ref {s : S} {n : Nat} {kvs : List (PyData × D)} {k : PyData} (h : s[n]? = some (.dct kvs)) (hk : kSame kvs k = true) : gDget (.ref n) [.da k] s = .ok ((dGet kvs k).getD .non) s := by
 unfold gDget
 show onD (.ref n) s (fun n kvs => match keyD (.da k) with | some k => if kSame kvs k = true then R.ok ((dGet kvs k).getD .non) s else .bad | none => .bad) = _
 rw [onD_ref h]
 show (if kSame kvs k = true then R.ok ((dGet kvs k).getD .non) s else .bad) = _
 rw [if_pos hk]
theorem pairs_mapM : ∀ P : List (Str × Int), (P.map pr).mapM pairD = some (P.map fun p => (PyData.str p.1, PyData.int p.2))
 | [] => rfl
 | p :: r => by
  rw [List.map_cons, List.mapM_cons, pairs_mapM r]
  rfl
theorem passing_ok {p m : PyData} {k : Kd} {qs : List Str} {r : List (Option Int)} (h : PtK p k qs) (hr : RowK qs.length r) (hm : MomK qs r m) (s : S) :
  (Fpassing_at [.da p, .da m] s).W fun d s' => d = .lst (r.map oD) /\ Ext s s' := by
 obtain ⟨P, rfl, hl, hP, hO⟩ := hm.ex
 rw [epassing_at]; unfold Bpassing_at
 walk_at "go"
 rw [dictT_ok (pairs_mapM P) (by rw [List.length_map]; omega)]
 walk_at "go"
 rw [ports_of_ok h]
 walk_at "go"
 have ez : (qs.map PyData.str).map D.da = (qs.zip r).map fun p => D.str p.1 := by
  rw [List.map_map]
  have : qs = (qs.zip r).map (·.1) := by rw [List.map_fst_zip (by rw [hr.len]; exact Nat.le_refl _)]
  conv => lhs; rw [this]
  rw [List.map_map]; rfl
 have hz : (qs.zip r).length <= 13 := by rw [List.length_zip]; have := h.len; omega
 rw [ez, e_lc1 (ρ0 := [none, some (.ref s.length)]) (by rw [List.length_map]; omega) rfl]
 have hg : (s ++ [O.dct (fillD (P.map fun p => (PyData.str p.1, PyData.int p.2)))])[s.length]? = some (.dct (fillD (P.map fun p => (PyData.str p.1, PyData.int p.2)))) := by simp
 have ks : ∀ q : Str, kSame (fillD (P.map fun p => (PyData.str p.1, PyData.int p.2))) (.str q) = true := by
  intro q
  unfold kSame
  rw [Bool.or_eq_true, Bool.and_eq_true, List.all_eq_true]
  refine .inl ⟨rfl, fill_keys _ [] (fun p hp => ?_) (fun e he => by cases he)⟩
  obtain ⟨p', _, rfl⟩ := List.mem_map.mp hp
  rfl
 rw [comp_da (fun p : Str × Option Int => D.str p.1) (fun _ => true) (fun p => oD p.2) (qs.zip r) (fun p hp => ⟨_, l_nm0, rfl, fun _ => by
  walk_at "ev"
  rw [e_md1 hg]
  walk_at "ev"
  rw [dget1_ref hg (ks _)]
  obtain ⟨j, hj⟩ := List.getElem?_of_mem hp
  rw [List.getElem?_zip_eq_some] at hj
  obtain ⟨h1, h2⟩ := hP j p.1 hj.1
  have : dGet (fillD (P.map fun p => (PyData.str p.1, PyData.int p.2))) (.str p.1) = match p.2 with | none => none | some i => some (D.int i) := by
   cases e : p.2 with
   | none =>
    rw [e] at hj
    refine (fill_no _ [] _ fun q hq => ?_).trans rfl
    obtain ⟨p', hp', rfl⟩ := List.mem_map.mp hq
    intro e2
    exact h1 hj.2 p' hp' (PyData.str.inj e2)
   | some i =>
    rw [e] at hj
    obtain ⟨m1, m2⟩ := h2 i hj.2
    refine fill_at _ [] _ _ (List.mem_map.mpr ⟨_, m1, rfl⟩) fun q hq e2 => ?_
    obtain ⟨p', hp', rfl⟩ := List.mem_map.mp hq
    show PyData.int p'.2 = _
    rw [m2 p' hp' (PyData.str.inj e2)]
  rw [this]
  cases p.2 <;> rfl⟩)]
 have e2 : ((qs.zip r).filter fun _ => true).map (fun p => oD p.2) = r.map oD := by
  rw [List.filter_eq_self.mpr fun _ _ => rfl]
  have : r = (qs.zip r).map (·.2) := by rw [List.map_snd_zip (by rw [hr.len]; exact Nat.le_refl _)]
  conv => rhs; rw [this]
  rw [List.map_map]; rfl
 rw [e2]
 walk_at "go"
 exact ⟨trivial, Ext.add _ _⟩
end Ln
namespace Ln
open PySem L2 PF
theorem bls_map : ∀ bs : List Bool, blsD (bs.map D.bl) = some bs
 | [] => rfl
 | b :: r => by rw [List.map_cons, blsD, bls_map r]
theorem all_lst {bs : List Bool} {s : S} : gAll [.lst (bs.map PyData.bool)] s = .ok (.bl (bs.all id)) s := by
 show (match (some ((bs.map PyData.bool).map D.da)).bind blsD with | some bs => R.ok (D.bl (bs.all id)) s | none => .bad) = _
 rw [List.map_map]
 show (match blsD (bs.map D.bl) with | some bs => R.ok (D.bl (bs.all id)) s | none => .bad) = _
 rw [bls_map]
section
variable {a0 a1 : D} {x y h : Option Int} {s : S}
theorem both_ok : Fboth_lets [a0, a1, .lst [oD x, oD y]] s = .ok (.bl (decide (x = y))) s := by
 rw [eboth_lets]; unfold Bboth_lets
 simp [il0, il1, gEq_o]
theorem gIn_ts {ts : List Int} {i : Int} : gIn (.int i) (.tup (ts.map PyData.int)) s = .ok (.bl (ts.any fun t => decide (t = i))) s := by
 show (if okD (.int i) = true /\ (ts.map PyData.int).all okD = true then R.ok (D.bl (nb false ((ts.map PyData.int).any fun d => PyData.eqv d (.int i)))) s else .bad) = _
 rw [if_pos ⟨rfl, by rw [List.all_eq_true]; intro d hd; obtain ⟨t, _, rfl⟩ := List.mem_map.mp hd; rfl⟩]
 have : ((ts.map PyData.int).any fun d => PyData.eqv d (.int i)) = ts.any fun t => decide (t = i) := by
  rw [List.any_map]; rfl
 rw [this]; rfl
theorem only_ok {ts : List Int} {b c d : PyData} : Fonly_lets [.tup [b, c, d, .tuple (ts.map .int)], a1, .lst [oD x, oD y]] s = .ok (.bl (decide (x = y) && (decide (x = none) || ts.any fun t => decide (some t = x)))) s := by
 rw [eonly_lets]; unfold Bonly_lets
 by_cases e : x = y
 ·subst e
  cases x with
  | none => simp [il0, il1, gEq_o, isN_oD]
  | some i =>
   simp [il0, il1, gEq_o, isN_oD, it3]
   rw [show oD (some i) = .int i from rfl, gIn_ts]; rfl
 ·simp [il0, il1, gEq_o, e]
theorem loose_ok : Floose_lets [a0, a1, .lst [oD x, oD y]] s = .ok (.bl (decide (y = none) || decide (x = y))) s := by
 rw [eloose_lets]; unfold Bloose_lets
 by_cases e : y = none
 ·simp [il0, il1, gEq_o, isN_oD, e]
 ·simp [il0, il1, gEq_o, isN_oD, e]
theorem gEq_b {b c : Bool} : gEq (.bl b) (.bl c) s = .ok (.bl (b == c)) s := by rw [gEq_da rfl rfl]; rfl
theorem drain_ok : Fdrain_lets [a0, a1, .lst [oD x, oD y]] s = .ok (.bl (decide (x = none) == decide (y = none))) s := by
 rw [edrain_lets]; unfold Bdrain_lets
 simp only [e_ret, e_op, e_op1, e_op2, e_var2, e_c, R.bind_ok', il0, il1, gIs_non, isN_oD, gEq_b, e_ret1, e_bodyr]
theorem either_ok : Feither_lets [a0, a1, .lst [oD x, oD y]] s = .ok (.bl (decide (x = none) || decide (y = none))) s := by
 rw [eeither_lets]; unfold Beither_lets
 by_cases e : x = none
 ·simp [il0, il1, isN_oD, e]
 ·simp [il0, il1, isN_oD, e]
theorem asg34 {x0 x1 x2 x3 x4 : Option D} {a b : PyData} : kAsg (.t2 (.nm 3) (.nm 4)) [x0, x1, x2, x3, x4] (.lst [a, b]) s = .ok (.nx [x0, x1, x2, some (.da a), some (.da b)]) s := e_asg1 rfl
theorem place_ok : Fplace_lets [a0, .da (oD h), .lst [oD x, oD y]] s = .ok (.bl (if h = none then decide (y = none) else decide (x = none) && (decide (y = none) || decide (y = h)))) s := by
 rw [eplace_lets]; unfold Bplace_lets
 by_cases e : h = none
 ·simp [asg34, isN_oD, e]
 ·by_cases e2 : x = none
  ·by_cases e3 : y = none
   ·simp [asg34, isN_oD, e, e2, e3]
   ·simp [asg34, isN_oD, e, e2, e3, gEq_o]
  ·simp [asg34, isN_oD, e, e2]
theorem last_ok : Flast_lets [a0, .da (oD h), .lst [oD x, oD y]] s = .ok (.bl (decide (y = none) || decide (y = h))) s := by
 rw [elast_lets]; unfold Blast_lets
 by_cases e : y = none
 ·simp [il1, isN_oD, e]
 ·simp [il1, isN_oD, e, gEq_o]
theorem copy_ok {r : List (Option Int)} (hl : r.length <= 13) : Fcopy_lets [a0, a1, .lst ((x :: r).map oD)] s = .ok (.bl ((x :: r).all fun y => decide (y = x))) s := by
 rw [ecopy_lets]; unfold Bcopy_lets
 walk_at "ev"
 rw [show ((x :: r).map oD).map D.da = (x :: r).map (fun y => D.da (oD y)) by rw [List.map_map]; rfl]
 rw [e_lc1 (ρ0 := [none, some (.lst ((x :: r).map oD))]) (by simp; omega) rfl]
 rw [comp_da (fun y : Option Int => D.da (oD y)) (fun _ => true) (fun y => PyData.bool (decide (y = x))) (x :: r) (fun p _ => ⟨_, l_nm0, rfl, fun _ => by
  rw [List.map_cons]
  simp [il0, gEq_o]⟩)]
 rw [List.filter_eq_self.mpr (fun _ _ => rfl), R.bind_ok', e_newF, R.bind_ok', e_cons1, e_nil, R.bind_ok', e_cons2, R.bind_ok']
 rw [show ((x :: r).map fun y => PyData.bool (decide (y = x))) = ((x :: r).map fun y => decide (y = x)).map PyData.bool by rw [List.map_map]; rfl, all_lst]
 rw [List.all_map]
 rfl
theorem at_last {α : Type} (l : List α) (z : α) : atI (l ++ [z]) (-1) = some z := by
 unfold atI ixN
 rw [if_neg (by decide), if_pos (by simp; omega)]
 simp
 have : ((-1 : Int) + (↑l.length + 1)).toNat = l.length := by omega
 rw [this]
 simp
theorem ix_last {l : List PyData} {z : PyData} : gIx (.lst (l ++ [z])) (.int (-1)) s = .ok (.da z) s := by
 show (match atI ((l ++ [z]).map D.da) (-1) with | some d => R.ok d s | none => .bad) = _
 rw [List.map_append, show List.map D.da [z] = [D.da z] from rfl, at_last]
theorem cut_last {α : Type} (l : List α) (z : α) : cutL (l ++ [z]) none (some (-1)) = l := by
 unfold cutL
 rw [HT.sIx_none, List.drop_zero]
 have : HT.sIx (l ++ [z]).length (l ++ [z]).length (some (-1)) - 0 = l.length := by
  show (if (-1 : Int) < 0 then ((-1 : Int) + ((l ++ [z]).length : Int)).toNat else min (-1 : Int).toNat (l ++ [z]).length) - 0 = l.length
  rw [if_pos (by decide)]
  simp; omega
 rw [this, List.take_left]
theorem okD_os {l : List (Option Int)} : okD (.list (l.map oD)) = true := by
 have c : ∀ l : List (Option Int), PyData.canLayAll0 (l.map oD) = true := by
  intro l
  induction l with
  | nil => rfl
  | cons a r ih => rw [List.map_cons]; simp only [PyData.canLayAll0, ih, Bool.and_true]; cases a <;> rfl
 have dd : ∀ l : List (Option Int), PyData.depthAll (l.map oD) <= 1 := by
  intro l
  induction l with
  | nil => simp [PyData.depthAll]
  | cons a r ih => rw [List.map_cons]; simp only [PyData.depthAll]; cases a <;> simp only [oD, PyData.depth] <;> omega
 unfold okD
 rw [Bool.and_eq_true]
 refine ⟨by simp only [PyData.canLay0]; exact c l, decide_eq_true ?_⟩
 simp only [PyData.depth]
 have := dd l
 omega
theorem gEq_os {a b : List (Option Int)} : gEq (.lst (a.map oD)) (.lst (b.map oD)) s = .ok (.bl (decide (a = b))) s := by
 rw [gEq_da okD_os okD_os]
 show R.ok (D.bl (PyData.eqvAll _ _)) s = _
 rw [eqvs_oD]
theorem merge_ok {r : List (Option Int)} (hl : r.length <= 13) : Fmerge_lets [a0, a1, .lst ((r ++ [x]).map oD)] s = .ok (.bl (decide (r.filter (fun y => !decide (y = none)) = if x = none then [] else [x]))) s := by
 rw [emerge_lets]; unfold Bmerge_lets
 rw [List.map_append, show List.map oD [x] = [oD x] from rfl]
 walk_at "ev"
 rw [show ((-1 : Int)) = -1 from rfl, ix_last]
 walk_at "ev"
 rw [cut_last]
 rw [show (r.map oD).map D.da = r.map (fun y => D.da (oD y)) by rw [List.map_map]; rfl]
 rw [e_lc1 (ρ0 := [none]) (by simp; omega) rfl]
 rw [comp_da (fun y : Option Int => D.da (oD y)) (fun y => !decide (y = none)) oD r (fun p _ => ⟨_, rfl, by simp [isN_oD], fun _ => by simp⟩)]
 walk_at "ev"
 by_cases e : x = none
 ·simp only [isN_oD, e, decide_true]
  walk_at "ev"
  have := gEq_os (s := s) (a := r.filter fun y => !decide (y = none)) (b := [])
  rw [show List.map oD ([] : List (Option Int)) = [] from rfl] at this
  rw [this]
  rfl
 ·simp only [isN_oD, e, decide_false]
  walk_at "ev"
  have := gEq_os (s := s) (a := r.filter fun y => !decide (y = none)) (b := [x])
  rw [show List.map oD [x] = [oD x] from rfl] at this
  rw [this]
  rfl
end
noncomputable def tabM : List (Str × Str) := [("both", "both_lets"), ("only", "only_lets"), ("loose", "loose_lets"), ("drain", "drain_lets"), ("either", "either_lets"), ("place", "place_lets"), ("last", "last_lets"), ("copy", "copy_lets"), ("merge", "merge_lets")]
theorem lets_gen {p m : PyData} {k : Kd} {qs : List Str} {r : List (Option Int)} {h : Option Int} {w y : Str} {pt : List PyData} {F : FF} (hp : PtK p k qs) (hr : RowK qs.length r) (hm : MomK qs r m) (s : S) (hw : p = .tuple (.str w :: pt)) (hT : PyProof.Rows.KTD.datumAt w tabM = some y) (hF : tbMANNERS y = some (3, F))
  (hFl : ∀ s1, F [.da p, .da (oD h), .lst (r.map oD)] s1 = .ok (.bl (letB k h r)) s1) : (Flets [.da p, .da (oD h), .da m] s).W fun d s' => d = .bl (letB k h r) /\ Ext s s' := by
 have e0 : ∀ s1, gIx (.da p) (.int 0) s1 = .ok (.str w) s1 := fun s1 => by rw [hw]; exact it0
 have e9 : ∀ s1, gIxF (.tabF tabM) (.str w) s1 = .ok (.fn y) s1 := fun _ => ixF_ok hT
 unfold tabM at e9
 rw [elets]; unfold Blets
 walk_at "go"
 rw [e0]
 walk_at "go"
 rw [e9]
 walk_at "go"
 rw [e_cv1 hF]
 walk_at "go"
 refine R.W_mono (passing_ok hp hr hm s) ?_
 rintro _ s1 ⟨rfl, x1⟩
 walk_at "go"
 rw [hFl]
 walk_at "go"
 exact ⟨trivial, x1⟩
theorem row2 {r : List (Option Int)} {a b : Str} (h : RowK [a, b].length r) : ∃ x y, r = [x, y] := by
 match r, h.len with
 | [x, y], _ => exact ⟨x, y, rfl⟩
theorem lets_ok {p m : PyData} {k : Kd} {qs : List Str} {r : List (Option Int)} {h : Option Int} (hp : PtK p k qs) (hr : RowK qs.length r) (hm : MomK qs r m) (s : S) : (Flets [.da p, .da (oD h), .da m] s).W fun d s' => d = .bl (letB k h r) /\ Ext s s' := by
 have T' : ∀ q ∈ tabM, PyProof.Rows.KTD.datumAt q.1 tabM = some q.2 := by decide +kernel
 have T : ∀ w y : Str, (w, y) ∈ tabM -> PyProof.Rows.KTD.datumAt w tabM = some y := fun w y h => T' (w, y) h
 have hl := hp.len
 cases hp.pd with
 | @two w a b k r' hw =>
  obtain ⟨x, y, rfl⟩ := row2 hr
  cases hw with
  | both => exact lets_gen (y := "both_lets") (F := Fboth_lets) hp hr hm s rfl (T _ _ (by decide +kernel)) rfl fun s1 => both_ok
  | loose => exact lets_gen (y := "loose_lets") (F := Floose_lets) hp hr hm s rfl (T _ _ (by decide +kernel)) rfl fun s1 => loose_ok
  | drain => exact lets_gen (y := "drain_lets") (F := Fdrain_lets) hp hr hm s rfl (T _ _ (by decide +kernel)) rfl fun s1 => drain_ok
  | either => exact lets_gen (y := "either_lets") (F := Feither_lets) hp hr hm s rfl (T _ _ (by decide +kernel)) rfl fun s1 => either_ok
  | place z => exact lets_gen (y := "place_lets") (F := Fplace_lets) hp hr hm s rfl (T _ _ (by decide +kernel)) rfl fun s1 => place_ok
  | last z => exact lets_gen (y := "last_lets") (F := Flast_lets) hp hr hm s rfl (T _ _ (by decide +kernel)) rfl fun s1 => last_ok
  | only ts => exact lets_gen (y := "only_lets") (F := Fonly_lets) hp hr hm s rfl (T _ _ (by decide +kernel)) rfl fun s1 => only_ok
 | @copy a bs =>
  match r, hr.len with
  | x :: r, e =>
   simp at e hl
   refine lets_gen (y := "copy_lets") (F := Fcopy_lets) hp hr hm s rfl (T _ _ (by decide +kernel)) rfl fun s1 => copy_ok (by omega)
 | @merge a bs =>
  have hn := hr.len
  rcases List.eq_nil_or_concat r with rfl | ⟨r', x, rfl⟩
  ·simp at hn
  ·rw [List.concat_eq_append] at hn hr hm ⊢
   simp at hn hl
   refine lets_gen (y := "merge_lets") (F := Fmerge_lets) hp hr hm s rfl (T _ _ (by decide +kernel)) rfl fun s1 => ?_
   rw [merge_ok (by omega)]
   show _ = R.ok (D.bl (decide ((r' ++ [x]).dropLast.filter (fun x => !decide (x = none)) = if (r' ++ [x]).getLastD none = none then [] else [(r' ++ [x]).getLastD none]))) s1
   rw [List.dropLast_concat, List.getLastD_concat]
end Ln
namespace Ln
open PySem L2 PF
theorem rng_range (n : Nat) : rngD 0 n = (List.range n).map fun i : Nat => D.int (i : Int) := by
 apply List.ext_getElem?
 intro i
 by_cases h : i < n
 ·rw [rng_get n 0 i h, List.getElem?_map, List.getElem?_range h]
  simp
 ·rw [List.getElem?_eq_none (by rw [rng_len]; omega), List.getElem?_eq_none (by simp; omega)]
theorem get_app {s g : S} {o : O} : (s ++ o :: g)[s.length]? = some o := by simp
theorem set_app {s g : S} {o o' : O} : (s ++ o :: g).set s.length o' = s ++ o' :: g := by simp
noncomputable def aloneL (k : Kd) (h : Option Int) (n : Nat) (x : Int) : List (List (Option Int)) := match k with
 | .both => [List.replicate n (some x)]
 | .copy => [List.replicate n (some x)]
 | .only ts => if ts.any (fun t => decide (t = x)) = true then [[some x, some x]] else []
 | .loose => [[some x, none], [some x, some x]]
 | .either => [[some x, none], [none, some x]]
 | .place => if h = none then [[some x, none]] else if some x = h then [[none, some x]] else []
 | .merge => (List.range (n - 1)).map fun j => List.replicate j none ++ [some x] ++ List.replicate (n - 2 - j) none ++ [some x]
 | .last => [[some x, none]] ++ (if h = none then [] else [[some x, h]]) ++ (if some x = h then [[none, some x]] else [])
 | .drain => []
theorem flat_rep {α : Type} (a : α) : ∀ n : Nat, (List.replicate n [a]).flatten = List.replicate n a
 | 0 => rfl
 | n + 1 => by rw [List.replicate_succ, List.flatten_cons, flat_rep a n]; rfl
section
variable {s : S} {a : PyData} {n : Nat}
theorem mulT (hn : n < 1000) : gMulL false (.tup [a]) (.int (n : Int)) s = .ok (.tup (List.replicate n a)) s := by
 rw [mul_tup (by omega) (by omega) (by simp) (by simp), Int.toNat_natCast, flat_rep]
theorem mulB {b : Bool} : gMulL false (.lst [a]) (.int (if b = true then 1 else 0)) s = .ok (.lst (if b = true then [a] else [])) s := by
 cases b
 ·rw [mul_lst (by decide) (by decide) (by simp)]; rfl
 ·rw [mul_lst (by decide) (by decide) (by simp)]; rfl
end
theorem gInt_b {b : Bool} {s : S} : gInt [.bl b] s = .ok (.int (if b = true then 1 else 0)) s := rfl
theorem gEq_io {i : Int} {h : Option Int} {s : S} : gEq (.int i) (.da (oD h)) s = .ok (.bl (decide (some i = h))) s := gEq_o (a := some i)
theorem w_both : ¬ ("both" : Str) = "loose" /\ ¬ ("both" : Str) = "drain" /\ ¬ ("both" : Str) = "either" /\ ¬ ("both" : Str) = "only" /\ ¬ ("both" : Str) = "place" /\ ¬ ("both" : Str) = "last" /\ ¬ ("both" : Str) = "copy" /\ ¬ ("both" : Str) = "merge" /\ ¬ ("both" : Str) = "net" := by decide +kernel
theorem w_loose : ¬ ("loose" : Str) = "both" /\ ¬ ("loose" : Str) = "drain" /\ ¬ ("loose" : Str) = "either" /\ ¬ ("loose" : Str) = "only" /\ ¬ ("loose" : Str) = "place" /\ ¬ ("loose" : Str) = "last" /\ ¬ ("loose" : Str) = "copy" /\ ¬ ("loose" : Str) = "merge" /\ ¬ ("loose" : Str) = "net" := by decide +kernel
theorem w_drain : ¬ ("drain" : Str) = "both" /\ ¬ ("drain" : Str) = "loose" /\ ¬ ("drain" : Str) = "either" /\ ¬ ("drain" : Str) = "only" /\ ¬ ("drain" : Str) = "place" /\ ¬ ("drain" : Str) = "last" /\ ¬ ("drain" : Str) = "copy" /\ ¬ ("drain" : Str) = "merge" /\ ¬ ("drain" : Str) = "net" := by decide +kernel
theorem w_either : ¬ ("either" : Str) = "both" /\ ¬ ("either" : Str) = "loose" /\ ¬ ("either" : Str) = "drain" /\ ¬ ("either" : Str) = "only" /\ ¬ ("either" : Str) = "place" /\ ¬ ("either" : Str) = "last" /\ ¬ ("either" : Str) = "copy" /\ ¬ ("either" : Str) = "merge" /\ ¬ ("either" : Str) = "net" := by decide +kernel
theorem w_only : ¬ ("only" : Str) = "both" /\ ¬ ("only" : Str) = "loose" /\ ¬ ("only" : Str) = "drain" /\ ¬ ("only" : Str) = "either" /\ ¬ ("only" : Str) = "place" /\ ¬ ("only" : Str) = "last" /\ ¬ ("only" : Str) = "copy" /\ ¬ ("only" : Str) = "merge" /\ ¬ ("only" : Str) = "net" := by decide +kernel
theorem w_place : ¬ ("place" : Str) = "both" /\ ¬ ("place" : Str) = "loose" /\ ¬ ("place" : Str) = "drain" /\ ¬ ("place" : Str) = "either" /\ ¬ ("place" : Str) = "only" /\ ¬ ("place" : Str) = "last" /\ ¬ ("place" : Str) = "copy" /\ ¬ ("place" : Str) = "merge" /\ ¬ ("place" : Str) = "net" := by decide +kernel
theorem w_last : ¬ ("last" : Str) = "both" /\ ¬ ("last" : Str) = "loose" /\ ¬ ("last" : Str) = "drain" /\ ¬ ("last" : Str) = "either" /\ ¬ ("last" : Str) = "only" /\ ¬ ("last" : Str) = "place" /\ ¬ ("last" : Str) = "copy" /\ ¬ ("last" : Str) = "merge" /\ ¬ ("last" : Str) = "net" := by decide +kernel
theorem w_copy : ¬ ("copy" : Str) = "both" /\ ¬ ("copy" : Str) = "loose" /\ ¬ ("copy" : Str) = "drain" /\ ¬ ("copy" : Str) = "either" /\ ¬ ("copy" : Str) = "only" /\ ¬ ("copy" : Str) = "place" /\ ¬ ("copy" : Str) = "last" /\ ¬ ("copy" : Str) = "merge" /\ ¬ ("copy" : Str) = "net" := by decide +kernel
theorem w_merge : ¬ ("merge" : Str) = "both" /\ ¬ ("merge" : Str) = "loose" /\ ¬ ("merge" : Str) = "drain" /\ ¬ ("merge" : Str) = "either" /\ ¬ ("merge" : Str) = "only" /\ ¬ ("merge" : Str) = "place" /\ ¬ ("merge" : Str) = "last" /\ ¬ ("merge" : Str) = "copy" /\ ¬ ("merge" : Str) = "net" := by decide +kernel
theorem bc_tab : (∀ s : S, gIn (.str "both") (.tup [.str "both", .str "copy"]) s = .ok (.bl true) s) /\ (∀ s : S, gIn (.str "loose") (.tup [.str "both", .str "copy"]) s = .ok (.bl false) s) /\ (∀ s : S, gIn (.str "drain") (.tup [.str "both", .str "copy"]) s = .ok (.bl false) s) /\ (∀ s : S, gIn (.str "either") (.tup [.str "both", .str "copy"]) s = .ok (.bl false) s) /\ (∀ s : S, gIn (.str "only") (.tup [.str "both", .str "copy"]) s = .ok (.bl false) s) /\ (∀ s : S, gIn (.str "place") (.tup [.str "both", .str "copy"]) s = .ok (.bl false) s) /\ (∀ s : S, gIn (.str "last") (.tup [.str "both", .str "copy"]) s = .ok (.bl false) s) /\ (∀ s : S, gIn (.str "copy") (.tup [.str "both", .str "copy"]) s = .ok (.bl true) s) /\ (∀ s : S, gIn (.str "merge") (.tup [.str "both", .str "copy"]) s = .ok (.bl false) s) := ⟨gIn_lit ["both", "copy"] rfl (by decide +kernel), gIn_lit ["both", "copy"] rfl (by decide +kernel), gIn_lit ["both", "copy"] rfl (by decide +kernel), gIn_lit ["both", "copy"] rfl (by decide +kernel), gIn_lit ["both", "copy"] rfl (by decide +kernel), gIn_lit ["both", "copy"] rfl (by decide +kernel), gIn_lit ["both", "copy"] rfl (by decide +kernel), gIn_lit ["both", "copy"] rfl (by decide +kernel), gIn_lit ["both", "copy"] rfl (by decide +kernel)⟩
theorem pl_tab : (∀ s : S, gIn (.str "both") (.tup [.str "place", .str "last"]) s = .ok (.bl false) s) /\ (∀ s : S, gIn (.str "loose") (.tup [.str "place", .str "last"]) s = .ok (.bl false) s) /\ (∀ s : S, gIn (.str "drain") (.tup [.str "place", .str "last"]) s = .ok (.bl false) s) /\ (∀ s : S, gIn (.str "either") (.tup [.str "place", .str "last"]) s = .ok (.bl false) s) /\ (∀ s : S, gIn (.str "only") (.tup [.str "place", .str "last"]) s = .ok (.bl false) s) /\ (∀ s : S, gIn (.str "place") (.tup [.str "place", .str "last"]) s = .ok (.bl true) s) /\ (∀ s : S, gIn (.str "last") (.tup [.str "place", .str "last"]) s = .ok (.bl true) s) /\ (∀ s : S, gIn (.str "copy") (.tup [.str "place", .str "last"]) s = .ok (.bl false) s) /\ (∀ s : S, gIn (.str "merge") (.tup [.str "place", .str "last"]) s = .ok (.bl false) s) := ⟨gIn_lit ["place", "last"] rfl (by decide +kernel), gIn_lit ["place", "last"] rfl (by decide +kernel), gIn_lit ["place", "last"] rfl (by decide +kernel), gIn_lit ["place", "last"] rfl (by decide +kernel), gIn_lit ["place", "last"] rfl (by decide +kernel), gIn_lit ["place", "last"] rfl (by decide +kernel), gIn_lit ["place", "last"] rfl (by decide +kernel), gIn_lit ["place", "last"] rfl (by decide +kernel), gIn_lit ["place", "last"] rfl (by decide +kernel)⟩
local macro_rules | `(tactic| walk_at "kk") => do
  let ns := "Ln.bc_tab Ln.pl_tab PF.gEq_s Ln.w_both Ln.w_loose Ln.w_drain Ln.w_either Ln.w_only Ln.w_place Ln.w_last Ln.w_copy Ln.w_merge decide_true decide_false".splitOn " "
  let ids : Array (Lean.TSyntax `term) := ns.toArray.map fun n => Lean.mkIdent n.toName
  `(tactic| simp only [$[$ids:term],*])
local macro_rules | `(tactic| walk_at "kv") => `(tactic| (walk_at "ev"; repeat (walk_at "kk"; walk_at "ev")))
theorem pad {k : Nat} {x : Int} {n : Nat} (h : n <= 13) (hk : k < n - 1) (s : S) {ρ : En} :
  (fOp (gAdd false) (fOp (gAdd false) (fOp (gAdd false) (fOp (gMulL false) (fTup (fCons (fC (.da (.none))) fNil)) (fVar 0)) (fTup (fCons (fVar 1) fNil))) (fOp (gMulL false) (fTup (fCons (fC (.da (.none))) fNil)) (fOp gSub (fOp gSub (fVar 2) (fC (.da (.int 2)))) (fVar 0)))) (fTup (fCons (fVar 1) fNil))) (some (.int (k : Int)) :: some (.int x) :: some (.int (n : Int)) :: ρ) s
   = .ok (.da (rwD (List.replicate k none ++ [some x] ++ List.replicate (n - 2 - k) none ++ [some x]))) s := by
 have e : ((n : Int) - 2 - (k : Int)) = ((n - 2 - k : Nat) : Int) := by omega
 walk_at "ev"
 rw [mulT (by omega)]
 walk_at "ev"
 rw [gAdd_tup (by simp; omega)]
 walk_at "ev"
 rw [e, mulT (by omega)]
 walk_at "ev"
 rw [gAdd_tup (by simp; omega)]
 walk_at "ev"
 rw [gAdd_tup (by simp; omega)]
 simp [rwD, oD]
theorem alone_ok {p : PyData} {k : Kd} {qs : List Str} {h : Option Int} {x : Int} (hp : PtK p k qs) (hd : k ≠ .drain) (s : S) : F_law_alone [.da p, .da (oD h), .int x] s = .ok (.lst ((aloneL k h qs.length x).map rwD)) s := by
 have hl := hp.len
 have hlp := lports_ok hp s
 rw [e_law_alone]; unfold B_law_alone
 walk_at "ev"
 rw [hlp]
 walk_at "ev"
 rw [List.length_map]
 cases hp.pd with
 | @two w a b k r' hw =>
  cases hw with
  | both =>
   walk_at "kv"
   rw [mulT (by decide)]
   walk_at "ev"
   rfl
  | loose => walk_at "kv"; rfl
  | drain => exact (hd rfl).elim
  | either => walk_at "kv"; rfl
  | place z =>
   walk_at "kv"
   by_cases e : h = none
   ·simp only [isN_oD, e, decide_true, aloneL, if_true]
    walk_at "kv"; rfl
   ·simp only [isN_oD, e, decide_false, aloneL, if_false]
    walk_at "kv"
    rw [gEq_io]
    by_cases e2 : some x = h
    ·subst e2
     simp only [decide_true, if_true]
     walk_at "kv"; rfl
    ·simp only [e2, decide_false, if_false]
     walk_at "kv"; rfl
  | last z =>
   walk_at "kv"
   rw [isN_oD, gInt_b]
   walk_at "ev"
   rw [mulB]
   walk_at "ev"
   rw [gAdd_lst (by split <;> simp)]
   walk_at "ev"
   rw [gEq_io]
   walk_at "ev"
   rw [gInt_b]
   walk_at "ev"
   rw [mulB]
   walk_at "ev"
   rw [gAdd_lst (by split <;> split <;> simp)]
   walk_at "ev"
   simp only [aloneL]
   cases h with
   | none => simp [rwD, oD]
   | some v =>
    by_cases e2 : x = v
    ·subst e2; simp [rwD, oD]
    ·simp [e2, rwD, oD]
  | only ts =>
   walk_at "kv"
   rw [gIn_ts]
   walk_at "ev"
   by_cases e : ts.any (fun t => decide (t = x)) = true
   ·simp only [e, aloneL, if_true]; walk_at "ev"; rfl
   ·simp only [e, aloneL]; walk_at "ev"; rfl
 | @copy a bs =>
  walk_at "kv"
  simp at hl
  rw [mulT (by omega)]
  walk_at "ev"
  simp [aloneL, rwD, oD]
 | @merge a bs =>
  have e1 : ((bs.length + 1 : Nat) : Int) - 1 = ((bs.length : Nat) : Int) := by omega
  walk_at "kv"
  rw [e1]
  simp at hl
  rw [rng_ok (by omega) (by omega), Int.toNat_natCast, rng_range]
  walk_at "ev"
  rw [e_lc1 (ρ0 := [none, some (.int x), some (.int ((bs.length + 1 : Nat) : Int))]) (by simp; omega) rfl]
  rw [comp_da (fun j : Nat => D.int (j : Int)) (fun _ => true) (fun j => rwD (List.replicate j none ++ [some x] ++ List.replicate (bs.length + 1 - 2 - j) none ++ [some x])) (List.range bs.length) (fun j hj => ⟨_, l_nm0, rfl, fun _ => by
   have := List.mem_range.mp hj
   exact pad (n := bs.length + 1) (by omega) (by omega) s⟩)]
  rw [List.filter_eq_self.mpr (fun _ _ => rfl), R.bind_ok', e_newF]
  walk_at "ev"
  simp [aloneL]
end Ln
namespace Ln
open PySem L2 PF
noncomputable def stepL (k : Kd) (h : Option Int) (n t : Nat) (x : Int) : List (List (Option Int)) := match k with
 | .drain => (List.range t).map fun y : Nat => [some x, some (y : Int)]
 | k => aloneL k h n x
noncomputable def alwL (k : Kd) (h : Option Int) (n t : Nat) : List (List (Option Int)) := List.replicate n none :: ((List.range t).map fun x : Nat => stepL k h n t (x : Int)).flatten
theorem mem_alw {k : Kd} {h : Option Int} {n t : Nat} {r : List (Option Int)} : r ∈ alwL k h n t ↔ r = List.replicate n none \/ ∃ x : Nat, x < t /\ r ∈ stepL k h n t x := by
 unfold alwL
 rw [List.mem_cons, List.mem_flatten]
 refine or_congr Iff.rfl ⟨?_, ?_⟩
 ·rintro ⟨l, hl, hr⟩
  obtain ⟨x, hx, rfl⟩ := List.mem_map.mp hl
  exact ⟨x, List.mem_range.mp hx, hr⟩
 ·rintro ⟨x, hx, hr⟩
  exact ⟨_, List.mem_map.mpr ⟨x, List.mem_range.mpr hx, rfl⟩, hr⟩
noncomputable def two2 (t : Nat) (x : Option Int) : Prop := x = none \/ ∃ m : Nat, m < t /\ x = some (m : Int)
theorem two_of {t : Nat} {x : Option Int} (h : ∀ i, x = some i -> 0 <= i /\ i < t) : two2 t x := by
 cases x with
 | none => exact .inl rfl
 | some i =>
  have := h i rfl
  exact .inr ⟨i.toNat, by omega, by rw [Int.toNat_of_nonneg this.1]⟩
theorem alw_only {h : Option Int} {t a b : Nat} {ts : List Int} (ha : a < t) : [some (a : Int), some (b : Int)] ∈ alwL (.only ts) h 2 t ↔ letB (.only ts) h [some (a : Int), some (b : Int)] = true := by
 rw [mem_alw]
 have e : ∀ x : Int, (ts.any fun t => decide (some t = some x)) = ts.any fun t => decide (t = x) := fun x => by simp only [Option.some.injEq]
 simp only [stepL, aloneL, letB, e]
 constructor
 ·rintro (q | ⟨x, hx, q⟩)
  ·cases q
  ·split at q
   ·rename_i hq
    simp at q
    rw [q.1, q.2]
    simp [hq]
   ·cases q
 ·intro q
  simp only [Bool.and_eq_true, decide_eq_true_eq, Bool.or_eq_true, reduceCtorEq, false_or] at q
  refine .inr ⟨a, ha, ?_⟩
  rw [if_pos q.2, ← q.1]
  simp
theorem alw_two {k : Kd} {h x y : Option Int} {t : Nat} (hk : k ≠ .copy /\ k ≠ .merge) (hx : two2 t x) (hy : two2 t y) : [x, y] ∈ alwL k h 2 t ↔ letB k h [x, y] = true := by
 rw [mem_alw]
 have r2 : ∀ z : Option Int, List.replicate 2 z = [z, z] := fun _ => rfl
 rcases hx with rfl | ⟨a, ha, rfl⟩ <;> rcases hy with rfl | ⟨b, hb, rfl⟩ <;> cases k
 all_goals first
  | exact (hk.1 rfl).elim
  | exact (hk.2 rfl).elim
  | (rw [← mem_alw]; exact alw_only ha)
  | exact ⟨fun _ => rfl, fun _ => .inr ⟨a, ha, List.mem_map.mpr ⟨b, List.mem_range.mpr hb, rfl⟩⟩⟩
  | (simp [stepL, aloneL, letB, r2]; done)
  | (simp [stepL, aloneL, letB, r2]; exact ⟨b, hb, rfl⟩)
  | (simp [stepL, aloneL, letB, r2]; exact ⟨a, ha, rfl⟩)
  | (simp [stepL, aloneL, letB, r2]; exact ⟨fun ⟨x, hx, h1, h2⟩ => by omega, fun e => ⟨a, ha, rfl, e.symm⟩⟩)
  | skip
 all_goals (cases h <;> simp [stepL, aloneL, letB, r2])
 all_goals first
  | exact ⟨a, ha, rfl⟩
  | exact ⟨fun ⟨x, hx, h1, h2⟩ => h2.trans h1, fun e => ⟨b, hb, e, rfl⟩⟩
  | exact ⟨fun ⟨x, hx, h1, h2⟩ => h2, fun e => ⟨a, ha, rfl, e⟩⟩
theorem filt0 : ∀ r : List (Option Int), r.filter (fun x => !decide (x = none)) = [] ↔ r = List.replicate r.length none
 | [] => by simp
 | none :: r => by
  rw [List.filter_cons_of_neg (by simp), filt0 r, List.length_cons, List.replicate_succ, List.cons.injEq]
  simp
 | some a :: r => by
  rw [List.filter_cons_of_pos (by simp), List.length_cons, List.replicate_succ]
  simp
theorem filt1 (a : Int) : ∀ r : List (Option Int), r.filter (fun x => !decide (x = none)) = [some a] ↔ ∃ j, j < r.length /\ r = List.replicate j none ++ [some a] ++ List.replicate (r.length - 1 - j) none
 | [] => by simp
 | none :: r => by
  rw [List.filter_cons_of_neg (by simp), filt1 a r]
  constructor
  ·rintro ⟨j, hj, e⟩
   refine ⟨j + 1, by simp; omega, ?_⟩
   rw [List.length_cons, show r.length + 1 - 1 - (j + 1) = r.length - 1 - j by omega, List.replicate_succ, List.cons_append, List.cons_append, ← e]
  ·rintro ⟨j, hj, e⟩
   cases j with
   | zero => simp at e
   | succ j =>
    rw [List.length_cons, show r.length + 1 - 1 - (j + 1) = r.length - 1 - j by omega, List.replicate_succ, List.cons_append, List.cons_append, List.cons.injEq] at e
    exact ⟨j, by simp at hj; omega, e.2⟩
 | some b :: r => by
  rw [List.filter_cons_of_pos (by simp), List.cons.injEq, filt0]
  constructor
  ·rintro ⟨e1, e2⟩
   refine ⟨0, by simp, ?_⟩
   rw [e1]
   simp
   exact e2
  ·rintro ⟨j, hj, e⟩
   cases j with
   | zero =>
    simp at e
    exact ⟨by rw [e.1], e.2⟩
   | succ j =>
    rw [List.replicate_succ, List.cons_append, List.cons_append, List.cons.injEq] at e
    cases e.1
theorem alw_copy {h : Option Int} {t : Nat} {r : List (Option Int)} (hl : r ≠ []) (hr : ∀ x ∈ r, two2 t x) : r ∈ alwL .copy h r.length t ↔ letB .copy h r = true := by
 cases r with
 | nil => exact (hl rfl).elim
 | cons x l =>
  have e : letB .copy h (x :: l) = (x :: l).all fun y => decide (y = x) := rfl
  have e2 : ((x :: l).all fun y => decide (y = x)) = true ↔ x :: l = List.replicate (x :: l).length x := by
   rw [List.all_eq_true, List.eq_replicate_iff]
   simp
  rw [mem_alw, e, e2]
  have st : ∀ z : Nat, stepL .copy h (x :: l).length t z = [List.replicate (x :: l).length (some (z : Int))] := fun _ => rfl
  constructor
  ·rintro (q | ⟨z, hz, q⟩)
   ·have : x = none := by
     rw [List.length_cons, List.replicate_succ, List.cons.injEq] at q
     exact q.1
    rw [this]; rw [this] at q; exact q
   ·rw [st, List.mem_singleton] at q
    have : x = some (z : Int) := by
     rw [List.length_cons, List.replicate_succ, List.cons.injEq] at q
     exact q.1
    rw [this]; rw [this] at q; exact q
  ·intro q
   rcases hr x List.mem_cons_self with rfl | ⟨m, hm, rfl⟩
   ·exact .inl q
   ·exact .inr ⟨m, hm, by rw [st, List.mem_singleton]; exact q⟩
theorem alw_merge {h : Option Int} {t : Nat} {r : List (Option Int)} {z : Option Int} (hz : two2 t z) : r ++ [z] ∈ alwL .merge h (r.length + 1) t ↔ letB .merge h (r ++ [z]) = true := by
 have e : letB .merge h (r ++ [z]) = decide (r.filter (fun x => !decide (x = none)) = if z = none then [] else [z]) := by
  show decide ((r ++ [z]).dropLast.filter (fun x => !decide (x = none)) = if (r ++ [z]).getLastD none = none then [] else [(r ++ [z]).getLastD none]) = _
  rw [List.dropLast_concat, List.getLastD_concat]
 rw [mem_alw, e, decide_eq_true_eq]
 have st : ∀ x : Nat, stepL .merge h (r.length + 1) t x = (List.range r.length).map fun j => List.replicate j none ++ [some (x : Int)] ++ List.replicate (r.length - 1 - j) none ++ [some (x : Int)] := fun x => by
  show (List.range (r.length + 1 - 1)).map (fun j => List.replicate j none ++ [some (x : Int)] ++ List.replicate (r.length + 1 - 2 - j) none ++ [some (x : Int)]) = _
  rw [Nat.add_sub_cancel]
  rfl
 have inj : ∀ (a b : List (Option Int)) (u v : Option Int), a ++ [u] = b ++ [v] ↔ a = b /\ u = v := fun a b u v => by
  rw [← List.concat_eq_append, ← List.concat_eq_append, List.concat_inj]
 rcases hz with rfl | ⟨m, hm, rfl⟩
 ·rw [if_pos rfl, filt0]
  constructor
  ·rintro (q | ⟨x, hx, q⟩)
   ·rw [List.replicate_succ', inj] at q
    exact q.1
   ·rw [st] at q
    obtain ⟨j, hj, q⟩ := List.mem_map.mp q
    rw [inj] at q
    cases q.2
  ·intro q
   left
   rw [List.replicate_succ', inj]
   exact ⟨q, rfl⟩
 ·rw [if_neg (by simp), filt1]
  constructor
  ·rintro (q | ⟨x, hx, q⟩)
   ·rw [List.replicate_succ', inj] at q
    cases q.2
   ·rw [st] at q
    obtain ⟨j, hj, q⟩ := List.mem_map.mp q
    rw [inj] at q
    have : (x : Int) = m := by injection q.2
    rw [this] at q
    exact ⟨j, List.mem_range.mp hj, q.1.symm⟩
  ·rintro ⟨j, hj, q⟩
   refine .inr ⟨m, hm, ?_⟩
   rw [st]
   exact List.mem_map.mpr ⟨j, List.mem_range.mpr hj, by rw [inj]; exact ⟨q.symm, rfl⟩⟩
end Ln
namespace Ln
open PySem L2 PF
theorem PtD.word {p : PyData} {k : Kd} {qs : List Str} (h : PtD p k qs) : ∃ (w : Str) (pt : List PyData), p = .tuple (.str w :: pt) /\ (decide (w = "drain") = true -> k = .drain) /\ (decide (w = "drain") = false -> k ≠ .drain) := by
 cases h with
 | two hw =>
  cases hw
  ·exact ⟨_, _, rfl, (fun e => by simp only [w_both, w_loose, w_either, w_place, w_last, w_only, w_copy, w_merge, decide_false, Bool.false_eq_true] at e), fun _ e => by cases e⟩
  ·exact ⟨_, _, rfl, (fun e => by simp only [w_both, w_loose, w_either, w_place, w_last, w_only, w_copy, w_merge, decide_false, Bool.false_eq_true] at e), fun _ e => by cases e⟩
  ·exact ⟨_, _, rfl, (fun _ => rfl), fun e => by simp at e⟩
  ·exact ⟨_, _, rfl, (fun e => by simp only [w_both, w_loose, w_either, w_place, w_last, w_only, w_copy, w_merge, decide_false, Bool.false_eq_true] at e), fun _ e => by cases e⟩
  ·exact ⟨_, _, rfl, (fun e => by simp only [w_both, w_loose, w_either, w_place, w_last, w_only, w_copy, w_merge, decide_false, Bool.false_eq_true] at e), fun _ e => by cases e⟩
  ·exact ⟨_, _, rfl, (fun e => by simp only [w_both, w_loose, w_either, w_place, w_last, w_only, w_copy, w_merge, decide_false, Bool.false_eq_true] at e), fun _ e => by cases e⟩
  ·exact ⟨_, _, rfl, (fun e => by simp only [w_both, w_loose, w_either, w_place, w_last, w_only, w_copy, w_merge, decide_false, Bool.false_eq_true] at e), fun _ e => by cases e⟩
 | copy => exact ⟨_, _, rfl, (fun e => by simp only [w_both, w_loose, w_either, w_place, w_last, w_only, w_copy, w_merge, decide_false, Bool.false_eq_true] at e), fun _ e => by cases e⟩
 | merge => exact ⟨_, _, rfl, (fun e => by simp only [w_both, w_loose, w_either, w_place, w_last, w_only, w_copy, w_merge, decide_false, Bool.false_eq_true] at e), fun _ e => by cases e⟩
theorem step_alone {k : Kd} (hk : k ≠ .drain) (h : Option Int) (n t : Nat) (x : Int) : stepL k h n t x = aloneL k h n x := by
 cases k <;> first | rfl | exact (hk rfl).elim
theorem step_len (k : Kd) (h : Option Int) {n t : Nat} (x : Int) (hn : n <= 13) (ht : t <= 3) : (stepL k h n t x).length <= 13 := by
 cases k <;> simp only [stepL, aloneL]
 ·simp
 ·simp
 ·simp; omega
 ·simp
 ·split <;> simp
 ·split
  ·simp
  ·split <;> simp
 ·split <;> split <;> simp
 ·simp
 ·simp; omega
noncomputable abbrev rW (r : List (Option Int)) : D := .da (rwD r)
structure AlwJ (s : S) (p : PyData) (k : Kd) (h : Option Int) (n t : Nat) (r : List D) (ρ : En) (s' : S) : Prop where
 ex : ∃ (l : List Nat) (acc : List (List (Option Int))) (u : Option D), r = l.map (fun x : Nat => D.int (x : Int)) /\ ρ = [some (.int (t : Int)), some (.da p), some (.da (oD h)), some (.ref s.length), u] /\ s' = s ++ [.lst (acc.map rW)] /\
  acc ++ (l.map fun x : Nat => stepL k h n t (x : Int)).flatten = alwL k h n t /\ acc.length + 13 * l.length <= 100
theorem map_rW (l : List (List (Option Int))) : (l.map rwD).map D.da = l.map rW := by rw [List.map_map]; rfl
theorem allowed_ok {p : PyData} {k : Kd} {qs : List Str} {h : Option Int} {t : Nat} (hp : PtK p k qs) (ht : t <= 3) (s : S) :
  (F_law_allowed [.int (t : Int), .da p, .da (oD h)] s).W fun d s' => d = .ref s.length /\ s' = s ++ [.lst ((alwL k h qs.length t).map rW)] := by
 obtain ⟨w, pt, hw, hk1, hk2⟩ := hp.pd.word
 have hl := hp.len
 have e0 : ∀ s1, gIx (.da p) (.int 0) s1 = .ok (.str w) s1 := fun s1 => by rw [hw]; exact it0
 rw [e_law_allowed]; unfold B_law_allowed
 walk_at "go"
 rw [lports_ok hp]
 walk_at "go"
 rw [List.length_map, mulT (by omega)]
 walk_at "go"
 rw [rng_ok (by omega) (by omega), Int.toNat_natCast, rng_range]
 walk_at "go"
 refine loop_inv (AlwJ s p k h qs.length t) ?_ ?_ _ _ _ ⟨List.range t, [List.replicate qs.length none], none, rfl, rfl, ?_, rfl, by simp; omega⟩
 ·rintro d r ρ s1 ⟨l, acc, u, hr, rfl, rfl, hacc, hlen⟩
  cases l with
  | nil => cases hr
  | cons x l =>
   rw [List.map_cons, List.cons.injEq] at hr
   obtain ⟨rfl, rfl⟩ := hr
   rw [List.length_cons] at hlen
   rw [List.map_cons, List.flatten_cons, ← List.append_assoc] at hacc
   have sl := step_len k h (n := qs.length) (t := t) (x : Int) hl ht
   have hg : (s ++ [O.lst (acc.map rW)])[s.length]? = some (.lst (acc.map rW)) := get_app
   have fin : ∀ xs : List PyData, xs = (stepL k h qs.length t x).map rwD -> (gExtend (.ref s.length) [.lst xs] (s ++ [O.lst (acc.map rW)])) = .ok .non (s ++ [.lst ((acc ++ stepL k h qs.length t x).map rW)]) := by
    rintro _ rfl
    rw [extend_lst hg (by rw [List.length_map, List.length_map]; omega), set_app, map_rW, ← List.map_append]
   refine ⟨_, l_nm4, ?_⟩
   walk_at "go"
   rw [e0]
   walk_at "go"
   rw [gEq_s]
   cases hd : decide (w = "drain") with
   | true =>
    have hk := hk1 hd
    subst hk
    walk_at "go"
    rw [e_mt1 hg]
    walk_at "go"
    rw [rng_ok (by omega) (by omega), Int.toNat_natCast, rng_range]
    walk_at "go"
    rw [e_lc1 (ρ0 := [none, some (.int (x : Int))]) (by simp; omega) rfl]
    rw [comp_da (fun j : Nat => D.int (j : Int)) (fun _ => true) (fun j => PyData.tuple [.int (x : Int), .int (j : Int)]) (List.range t) (fun j hj => ⟨_, l_nm0, rfl, fun _ => by walk_at "ev"⟩)]
    (rw [List.filter_eq_self.mpr (fun _ _ => rfl)])
    walk_at "go"
    rw [fin _ (by simp [stepL, rwD, oD])]
    walk_at "go"
    exact ⟨l, _, _, rfl, rfl, rfl, hacc, by simp; omega⟩
   | false =>
    have hk := hk2 hd
    walk_at "go"
    rw [e_mt1 hg]
    walk_at "go"
    rw [alone_ok hp hk]
    walk_at "go"
    rw [fin _ (by rw [step_alone hk])]
    walk_at "go"
    exact ⟨l, _, _, rfl, rfl, rfl, hacc, by simp; omega⟩
 ·rintro ρ s1 ⟨l, acc, u, hr, rfl, rfl, hacc, hlen⟩
  cases l with
  | cons x l => cases hr
  | nil =>
   walk_at "go"
   rw [List.map_nil, List.flatten_nil, List.append_nil] at hacc
   rw [hacc]
   exact ⟨trivial, rfl⟩
 ·simp [rwD, oD]
theorem step_row {k : Kd} {p : PyData} {qs : List Str} {h : Option Int} {t x : Nat} (hp : PtD p k qs) (ht : t <= 3) (hx : x < t) (hh : two2 t h) {r : List (Option Int)} (hr : r ∈ stepL k h qs.length t x) : RowK qs.length r := by
 have ok2 : ∀ a b : Option Int, two2 t a -> two2 t b -> RowK 2 [a, b] := fun a b ha hb => ⟨rfl, fun i hi => by
  have hi : some i = a \/ some i = b := by simpa using hi
  rcases hi with rfl | rfl
  ·rcases ha with e | ⟨m, hm, e⟩ <;> cases e; omega
  ·rcases hb with e | ⟨m, hm, e⟩ <;> cases e; omega⟩
 have tx : two2 t (some (x : Int)) := .inr ⟨x, hx, rfl⟩
 have tn : two2 t none := .inl rfl
 cases hp with
 | two hw =>
  cases hw <;> simp only [stepL, aloneL, List.length_cons, List.length_nil, Nat.zero_add] at hr
  ·have : r = [some (x : Int), some (x : Int)] := by simpa using hr
   subst this; exact ok2 _ _ tx tx
  ·have : r = [some (x : Int), none] \/ r = [some (x : Int), some (x : Int)] := by simpa using hr
   rcases this with rfl | rfl
   ·exact ok2 _ _ tx tn
   ·exact ok2 _ _ tx tx
  ·obtain ⟨y, hy, rfl⟩ := List.mem_map.mp hr
   exact ok2 _ _ tx (.inr ⟨y, List.mem_range.mp hy, rfl⟩)
  ·have : r = [some (x : Int), none] \/ r = [none, some (x : Int)] := by simpa using hr
   rcases this with rfl | rfl
   ·exact ok2 _ _ tx tn
   ·exact ok2 _ _ tn tx
  ·split at hr
   ·have : r = [some (x : Int), none] := by simpa using hr
    subst this; exact ok2 _ _ tx tn
   ·split at hr
    ·have : r = [none, some (x : Int)] := by simpa using hr
     subst this; exact ok2 _ _ tn tx
    ·cases hr
  ·rcases List.mem_append.mp hr with hr | hr
   ·rcases List.mem_append.mp hr with hr | hr
    ·have : r = [some (x : Int), none] := by simpa using hr
     subst this; exact ok2 _ _ tx tn
    ·split at hr
     ·cases hr
     ·have : r = [some (x : Int), h] := by simpa using hr
      subst this; exact ok2 _ _ tx hh
   ·split at hr
    ·have : r = [none, some (x : Int)] := by simpa using hr
     subst this; exact ok2 _ _ tn tx
    ·cases hr
  ·split at hr
   ·have : r = [some (x : Int), some (x : Int)] := by simpa using hr
    subst this; exact ok2 _ _ tx tx
   ·cases hr
 | copy =>
  simp only [stepL, aloneL] at hr
  have hr := List.mem_singleton.mp hr
  subst hr
  exact ⟨by simp, fun i hi => by
   have := List.eq_of_mem_replicate hi
   cases this; omega⟩
 | @merge a bs =>
  simp only [stepL, aloneL] at hr
  obtain ⟨j, hj, rfl⟩ := List.mem_map.mp hr
  have hj := List.mem_range.mp hj
  refine ⟨by simp at hj ⊢; omega, fun i hi => ?_⟩
  have : i = (x : Int) := by
   simp at hi
   grind
  omega
theorem alw_row {k : Kd} {p : PyData} {qs : List Str} {h : Option Int} {t : Nat} (hp : PtD p k qs) (ht : t <= 3) (hh : two2 t h) {r : List (Option Int)} (hr : r ∈ alwL k h qs.length t) : RowK qs.length r := by
 rcases mem_alw.mp hr with rfl | ⟨x, hx, hr⟩
 ·exact ⟨by simp, fun i hi => by cases List.eq_of_mem_replicate hi⟩
 ·exact step_row hp ht hx hh hr
theorem alw_iff {k : Kd} {p : PyData} {qs : List Str} {h : Option Int} {t : Nat} (hp : PtD p k qs) {r : List (Option Int)} (hl : r.length = qs.length) (hr : ∀ i, some i ∈ r -> 0 <= i /\ i < t) : r ∈ alwL k h qs.length t ↔ letB k h r = true := by
 have tw : ∀ x ∈ r, two2 t x := fun x hx => two_of fun i e => hr i (e ▸ hx)
 cases hp with
 | @two w a b k r' hw =>
  match r, hl with
  | [x, y], _ => exact alw_two (by cases hw <;> exact ⟨fun e => (by cases e), fun e => (by cases e)⟩) (tw x (by simp)) (tw y (by simp))
 | copy =>
  rw [← hl]
  exact alw_copy (by intro e; rw [e] at hl; simp at hl) tw
 | @merge a bs =>
  rcases List.eq_nil_or_concat r with rfl | ⟨r', x, rfl⟩
  ·simp at hl
  ·rw [List.concat_eq_append] at hl tw ⊢
   have : (bs ++ [a]).length = r'.length + 1 := by simp at hl ⊢; omega
   rw [this]
   exact alw_merge (tw x (by simp))
theorem alw_len {k : Kd} {h : Option Int} {n t : Nat} (hn : n <= 13) (ht : t <= 3) : (alwL k h n t).length <= 40 := by
 have : ∀ l : List Nat, ((l.map fun x : Nat => stepL k h n t (x : Int)).flatten).length <= 13 * l.length := by
  intro l
  induction l with
  | nil => simp
  | cons x l ih =>
   rw [List.map_cons, List.flatten_cons, List.length_append, List.length_cons]
   have := step_len k h (n := n) (t := t) (x : Int) hn ht
   omega
 unfold alwL
 have := this (List.range t)
 rw [List.length_range] at this
 rw [List.length_cons]
 omega
end Ln
namespace Ln
open PySem L2 PF
theorem gNotIn_tupS {w : Str} {ss : List Str} {s : S} (h1 : okD (.str w) = true) (h2 : ∀ x ∈ ss, okD (.str x) = true) : gNotIn (.str w) (.tup (ss.map PyData.str)) s = .ok (.bl (!decide (w ∈ ss))) s := by
 show (if okD (.str w) = true /\ (ss.map PyData.str).all okD = true then R.ok (D.bl (nb true ((ss.map PyData.str).any fun d => PyData.eqv d (.str w)))) s else .bad) = _
 rw [if_pos ⟨h1, all_strs h2⟩, any_strs]; rfl
theorem gNotIn_lit {w : Str} (ss : List Str) {l : List PyData} {b : Bool} (e : l = ss.map PyData.str) (h : okD (.str w) = true /\ (∀ x ∈ ss, okD (.str x) = true) /\ decide (w ∈ ss) = b) (s : S) : gNotIn (.str w) (.tup l) s = .ok (.bl (!b)) s := by
 subst e
 rw [gNotIn_tupS h.1 h.2.1, h.2.2]
theorem gNotIn_con {w : Str} (ss : List Str) {b : Bool} (h : okD (.str w) = true /\ (∀ x ∈ ss, okD (.str x) = true) /\ decide (w ∈ ss) = b) (s : S) : gNotIn (.str w) (.con (List.map PyData.str ss)) s = .ok (.bl (!b)) s := by
 show (if okD (.str w) = true /\ (ss.map PyData.str).all okD = true then R.ok (D.bl (nb true ((ss.map PyData.str).any fun d => PyData.eqv d (.str w)))) s else .bad) = _
 rw [if_pos ⟨h.1, all_strs h.2.1⟩, any_strs, h.2.2]; rfl
noncomputable def behB (k : Kd) (h : Option Int) (r : List (Option Int)) : Option Int := match k, r with
 | .place, [x, y] => if x = none then (if y = none then h else none) else x
 | .last, [x, _] => if x = none then h else x
 | _, _ => none
theorem np_con : (∀ s : S, gNotIn (.str "both") (.con (List.map PyData.str ["place", "last"])) s = .ok (.bl true) s) /\ (∀ s : S, gNotIn (.str "loose") (.con (List.map PyData.str ["place", "last"])) s = .ok (.bl true) s) /\ (∀ s : S, gNotIn (.str "drain") (.con (List.map PyData.str ["place", "last"])) s = .ok (.bl true) s) /\ (∀ s : S, gNotIn (.str "either") (.con (List.map PyData.str ["place", "last"])) s = .ok (.bl true) s) /\ (∀ s : S, gNotIn (.str "only") (.con (List.map PyData.str ["place", "last"])) s = .ok (.bl true) s) /\ (∀ s : S, gNotIn (.str "place") (.con (List.map PyData.str ["place", "last"])) s = .ok (.bl false) s) /\ (∀ s : S, gNotIn (.str "last") (.con (List.map PyData.str ["place", "last"])) s = .ok (.bl false) s) /\ (∀ s : S, gNotIn (.str "copy") (.con (List.map PyData.str ["place", "last"])) s = .ok (.bl true) s) /\ (∀ s : S, gNotIn (.str "merge") (.con (List.map PyData.str ["place", "last"])) s = .ok (.bl true) s) := ⟨gNotIn_con (b := false) ["place", "last"] (by decide +kernel), gNotIn_con (b := false) ["place", "last"] (by decide +kernel), gNotIn_con (b := false) ["place", "last"] (by decide +kernel), gNotIn_con (b := false) ["place", "last"] (by decide +kernel), gNotIn_con (b := false) ["place", "last"] (by decide +kernel), gNotIn_con (b := true) ["place", "last"] (by decide +kernel), gNotIn_con (b := true) ["place", "last"] (by decide +kernel), gNotIn_con (b := false) ["place", "last"] (by decide +kernel), gNotIn_con (b := false) ["place", "last"] (by decide +kernel)⟩
theorem np_tab : (∀ s : S, gNotIn (.str "both") (.tup [.str "place", .str "last"]) s = .ok (.bl true) s) /\ (∀ s : S, gNotIn (.str "loose") (.tup [.str "place", .str "last"]) s = .ok (.bl true) s) /\ (∀ s : S, gNotIn (.str "drain") (.tup [.str "place", .str "last"]) s = .ok (.bl true) s) /\ (∀ s : S, gNotIn (.str "either") (.tup [.str "place", .str "last"]) s = .ok (.bl true) s) /\ (∀ s : S, gNotIn (.str "only") (.tup [.str "place", .str "last"]) s = .ok (.bl true) s) /\ (∀ s : S, gNotIn (.str "place") (.tup [.str "place", .str "last"]) s = .ok (.bl false) s) /\ (∀ s : S, gNotIn (.str "last") (.tup [.str "place", .str "last"]) s = .ok (.bl false) s) /\ (∀ s : S, gNotIn (.str "copy") (.tup [.str "place", .str "last"]) s = .ok (.bl true) s) /\ (∀ s : S, gNotIn (.str "merge") (.tup [.str "place", .str "last"]) s = .ok (.bl true) s) := ⟨gNotIn_lit (b := false) ["place", "last"] rfl (by decide +kernel), gNotIn_lit (b := false) ["place", "last"] rfl (by decide +kernel), gNotIn_lit (b := false) ["place", "last"] rfl (by decide +kernel), gNotIn_lit (b := false) ["place", "last"] rfl (by decide +kernel), gNotIn_lit (b := false) ["place", "last"] rfl (by decide +kernel), gNotIn_lit (b := true) ["place", "last"] rfl (by decide +kernel), gNotIn_lit (b := true) ["place", "last"] rfl (by decide +kernel), gNotIn_lit (b := false) ["place", "last"] rfl (by decide +kernel), gNotIn_lit (b := false) ["place", "last"] rfl (by decide +kernel)⟩
theorem held_ok {p m : PyData} {k : Kd} {qs : List Str} {r : List (Option Int)} {h : Option Int} (hp : PtK p k qs) (hr : RowK qs.length r) (hm : MomK qs r m) (s : S) :
  (Fheld_behind [.da p, .da (oD h), .da m] s).W fun d s' => d = .da (oD (behB k h r)) /\ Ext s s' := by
 have pas := passing_ok hp hr hm s
 rw [eheld_behind]
 have gen : ∀ (w : Str) (pt : List PyData), p = .tuple (.str w :: pt) -> (∀ s, gNotIn (.str w) (.con (List.map PyData.str ["place", "last"])) s = .ok (.bl true) s) -> behB k h r = none ->
   ((Bheld_behind [some (.da p), some (.da (oD h)), some (.da m), none, none] s).bind kBody).W fun d s' => d = .da (oD (behB k h r)) /\ Ext s s' := by
  intro w pt e hw hb
  subst e
  unfold Bheld_behind
  walk_at "go"
  rw [hw]
  walk_at "go"
  rw [hb]
  exact ⟨rfl, Ext.refl _⟩
 cases hp.pd with
 | @two w a b k r' hw =>
  obtain ⟨x, y, rfl⟩ := row2 hr
  cases hw with
  | both => exact gen _ _ rfl np_con.1 rfl
  | loose => exact gen _ _ rfl np_con.2.1 rfl
  | drain => exact gen _ _ rfl np_con.2.2.1 rfl
  | either => exact gen _ _ rfl np_con.2.2.2.1 rfl
  | only ts => exact gen _ _ rfl np_con.2.2.2.2.1 rfl
  | place z =>
   unfold Bheld_behind
   walk_at "go"
   rw [np_con.2.2.2.2.2.1]
   walk_at "go"
   refine R.W_mono pas ?_
   rintro _ s1 ⟨rfl, x1⟩
   rw [show ([x, y].map oD) = [oD x, oD y] from rfl]
   walk_at "go"
   rw [asg34]
   walk_at "go"
   rw [eheld_then]; unfold Bheld_then
   walk_at "go"
   by_cases e : x = none
   ·subst e
    simp only [isN_oD, decide_true, Bool.not_true]
    walk_at "go"
    rw [gEq_s]
    simp only [decide_true]
    walk_at "go"
    by_cases e2 : y = none
    ·simp only [isN_oD, e2, decide_true, Bool.not_true]
     walk_at "go"
     exact ⟨rfl, x1⟩
    ·simp only [isN_oD, e2, decide_false, Bool.not_false]
     walk_at "go"
     refine ⟨?_, x1⟩
     simp [behB, e2, oD]
   ·simp only [isN_oD, e, decide_false, Bool.not_false]
    walk_at "go"
    refine ⟨?_, x1⟩
    simp [behB, e]
  | last z =>
   unfold Bheld_behind
   walk_at "go"
   rw [np_con.2.2.2.2.2.2.1]
   walk_at "go"
   refine R.W_mono pas ?_
   rintro _ s1 ⟨rfl, x1⟩
   rw [show ([x, y].map oD) = [oD x, oD y] from rfl]
   walk_at "go"
   rw [asg34]
   walk_at "go"
   rw [eheld_then]; unfold Bheld_then
   walk_at "go"
   by_cases e : x = none
   ·subst e
    simp only [isN_oD, decide_true, Bool.not_true]
    walk_at "go"
    rw [gEq_s]
    simp only [w_last, decide_false]
    walk_at "go"
    exact ⟨rfl, x1⟩
   ·simp only [isN_oD, e, decide_false, Bool.not_false]
    walk_at "go"
    refine ⟨?_, x1⟩
    simp [behB, e]
 | copy => exact gen _ _ rfl np_con.2.2.2.2.2.2.2.1 rfl
 | merge => exact gen _ _ rfl np_con.2.2.2.2.2.2.2.2 rfl
theorem behind_ok {p : PyData} {k : Kd} {qs : List Str} {r : List (Option Int)} {h : Option Int} (hp : PtK p k qs) (hr : RowK qs.length r) (s : S) : F_law_behind [.da p, .da (oD h), .da (rwD r)] s = .ok (.da (oD (behB k h r))) s := by
 rw [e_law_behind]; unfold B_law_behind
 cases hp.pd with
 | @two w a b k r' hw =>
  obtain ⟨x, y, rfl⟩ := row2 hr
  unfold rwD
  rw [show ([x, y].map oD) = [oD x, oD y] from rfl]
  cases hw with
  | both => walk_at "ev"; simp only [np_tab]; walk_at "ev"; rfl
  | loose => walk_at "ev"; simp only [np_tab]; walk_at "ev"; rfl
  | drain => walk_at "ev"; simp only [np_tab]; walk_at "ev"; rfl
  | either => walk_at "ev"; simp only [np_tab]; walk_at "ev"; rfl
  | only ts => walk_at "ev"; simp only [np_tab]; walk_at "ev"; rfl
  | place z =>
   walk_at "ev"; simp only [np_tab]; walk_at "ev"
   by_cases e : x = none
   ·subst e
    simp only [isN_oD, decide_true, Bool.not_true]
    walk_at "ev"
    by_cases e2 : y = none
    ·simp only [isN_oD, e2, decide_true, Bool.not_true]
     walk_at "ev"
     rfl
    ·simp only [isN_oD, e2, decide_false, Bool.not_false]
     walk_at "ev"
     rw [gEq_s]
     simp only [decide_true]
     walk_at "ev"
     simp [behB, e2, oD]
   ·simp only [isN_oD, e, decide_false, Bool.not_false]
    walk_at "ev"
    simp [behB, e]
  | last z =>
   walk_at "ev"; simp only [np_tab]; walk_at "ev"
   by_cases e : x = none
   ·subst e
    simp only [isN_oD, decide_true, Bool.not_true]
    walk_at "ev"
    by_cases e2 : y = none
    ·simp only [isN_oD, e2, decide_true, Bool.not_true]
     walk_at "ev"
     rfl
    ·simp only [isN_oD, e2, decide_false, Bool.not_false]
     walk_at "ev"
     rw [gEq_s]
     simp only [w_last, decide_false]
     walk_at "ev"
     rfl
   ·simp only [isN_oD, e, decide_false, Bool.not_false]
    walk_at "ev"
    simp [behB, e]
 | copy => walk_at "ev"; simp only [np_tab]; walk_at "ev"; rfl
 | merge => walk_at "ev"; simp only [np_tab]; walk_at "ev"; rfl
end Ln
namespace Ln
open PySem L2 PF
theorem sl_ref {s : S} {n : Nat} {xs : List PyData} {lo hi : Option Int} (h : s[n]? = some (.lst (xs.map D.da))) : gSl false (.ref n) lo hi s = .ok (.lst (cutL xs lo hi)) s := by
 show (match (match s[n]? with | some (O.lst ds) => some ds | _ => none) with | some ds => newL false (cutL ds lo hi) s | none => .bad) = _
 rw [h]
 show newL false (cutL (xs.map D.da) lo hi) s = _
 rw [cutL_map]
 exact e_newF
theorem add_refN {s : S} {n : Nat} {ds : List D} {ys : List PyData} (h : s[n]? = some (.lst ds)) (hl : ds.length + ys.length <= 16777216) : gAdd true (.ref n) (.lst ys) s = .ok (.ref s.length) (s ++ [.lst (ds ++ ys.map D.da)]) := by
 show (match (match s[n]? with | some (O.lst ds) => some ds | _ => none), some (ys.map D.da) with | some xs, some ys => (if xs.length + ys.length <= sizeLine then newL true (xs ++ ys) s else .bad) | _, _ => .bad) = _
 rw [h]
 show (if ds.length + (ys.map D.da).length <= sizeLine then newL true (ds ++ ys.map D.da) s else .bad) = _
 rw [if_pos (by rw [sizeLine_eq', List.length_map]; exact hl)]
 rfl
theorem same_push {n : Nat} {s s' : S} (h : Same n s s') (o : O) : Same n s (s' ++ [o]) := h.trans ((Ext.add s' [o]).same n)
theorem map_cons_inv {α β : Type} {f : α -> β} {d : β} {r : List β} {l : List α} (h : d :: r = l.map f) : ∃ x l', l = x :: l' /\ d = f x /\ r = l'.map f := by
 cases l with
 | nil => cases h
 | cons x l' => simp only [List.map_cons, List.cons.injEq] at h; exact ⟨x, l', rfl, h.1, h.2⟩
theorem nil_map_inv {α β : Type} {f : α -> β} {l : List α} (h : [] = l.map f) : l = [] := by
 cases l with
 | nil => rfl
 | cons x l' => simp at h
noncomputable def smallO (a : Option Int) : Prop := ∀ i, a = some i -> 0 <= i /\ i < 3
theorem pick4 {j : Int} (h0 : 0 <= j) (h1 : j < 4) : ∃ a : Option Int, smallO a /\ ∀ s : S, gIx (.lst [.none, .int 0, .int 1, .int 2]) (.int j) s = .ok (.da (oD a)) s := by
 have : j = 0 \/ j = 1 \/ j = 2 \/ j = 3 := by omega
 rcases this with rfl | rfl | rfl | rfl
 ·exact ⟨none, fun i e => (by cases e), fun s => il0⟩
 ·exact ⟨some 0, fun i e => (by cases e; omega), fun s => il1⟩
 ·exact ⟨some 1, fun i e => (by cases e; omega), fun s => il2⟩
 ·exact ⟨some 2, fun i e => (by cases e; omega), fun s => il3⟩
theorem pick5 {j : Int} (h0 : 0 <= j) (h1 : j < 5) : ∃ a : Option Int, smallO a /\ ∀ s : S, gIx (.lst [.none, .int 0, .int 1, .int 2, .int 0]) (.int j) s = .ok (.da (oD a)) s := by
 have : j = 0 \/ j = 1 \/ j = 2 \/ j = 3 \/ j = 4 := by omega
 rcases this with rfl | rfl | rfl | rfl | rfl
 ·exact ⟨none, fun i e => (by cases e), fun s => il0⟩
 ·exact ⟨some 0, fun i e => (by cases e; omega), fun s => il1⟩
 ·exact ⟨some 1, fun i e => (by cases e; omega), fun s => il2⟩
 ·exact ⟨some 2, fun i e => (by cases e; omega), fun s => il3⟩
 ·exact ⟨some 0, fun i e => (by cases e; omega), fun s => il4⟩
structure RowJ (s : S) (n c m t : Nat) (p : PyData) (h : Option Int) (ps : D) (b : Nat) (r : List D) (ρ : En) (s' : S) : Prop where
 ex : ∃ (l found : List (List (Option Int))) (fr c' : Nat) (u v w : Option D), r = l.map rW /\ ρ = [some (.ref n), some (.int (t : Int)), some (.da p), some (.da (oD h)), some ps, some (.ref fr), u, v, w] /\ s'[fr]? = some (.lst (found.map rW)) /\ s.length <= fr /\
  (∀ r ∈ found, RowK m r) /\ (∀ r ∈ l, RowK m r) /\ found.length + l.length <= b /\ Fd s' n c' /\ c' + 2 * l.length <= c /\ Same n s s'
structure PickJ (s : S) (n c m : Nat) (r acc : List D) (s' : S) : Prop where
 ex : ∃ (as : List (Option Int)) (c' : Nat), acc = as.map (fun a => D.da (oD a)) /\ (∀ a ∈ as, smallO a) /\ as.length + r.length = m /\ Fd s' n c' /\ c' + r.length <= c /\ Same n s s'
structure Row2J (s : S) (n c m t : Nat) (p : PyData) (h : Option Int) (ps : D) (r : List D) (ρ : En) (s' : S) : Prop where
 ex : ∃ (found : List (List (Option Int))) (fr c' : Nat) (u v w : Option D), ρ = [some (.ref n), some (.int (t : Int)), some (.da p), some (.da (oD h)), some ps, some (.ref fr), u, v, w] /\ s'[fr]? = some (.lst (found.map rW)) /\ s.length <= fr /\
  (∀ r ∈ found, RowK m r) /\ found.length + r.length <= 90 /\ Fd s' n c' /\ c' + 13 * r.length <= c /\ Same n s s'
theorem row_put {m : Nat} {r : List (Option Int)} {a : Option Int} {q : Nat} (hr : RowK m r) (ha : smallO a) (hq : q < m) : RowK m (r.take q ++ [a] ++ r.drop (q + 1)) := by
 have hl := hr.len
 refine ⟨by simp; omega, fun i hi => ?_⟩
 rcases List.mem_append.mp hi with hi | hi
 ·rcases List.mem_append.mp hi with hi | hi
  ·exact hr.ok i (List.mem_of_mem_take hi)
  ·have : some i = a := by simpa using hi
   exact ha i this.symm
 ·exact hr.ok i (List.mem_of_mem_drop hi)
theorem rows_ok {s : S} {n c t : Nat} {p : PyData} {k : Kd} {qs : List Str} {h : Option Int} (hf : Fd s n c) (hp : PtK p k qs) (ht : t <= 3) (hh : two2 t h) (hq : 0 < qs.length) (hc : c + 200 < 2 ^ 40) :
  (F_law_rows [.ref n, .int (t : Int), .da p, .da (oD h)] s).W fun d s' => ∃ rows : List (List (Option Int)), d = .lst (rows.map rwD) /\ (∀ r ∈ rows, RowK qs.length r) /\ rows.length <= 100 /\ Fd s' n (c + 150) /\ Same n s s' := by
 have hl := hp.len
 have hn := hf.lt
 have al := alw_len (k := k) (h := h) hl ht
 have alr : ∀ r ∈ alwL k h qs.length t, RowK qs.length r := fun r hr => alw_row hp.pd ht hh hr
 rw [e_law_rows]; unfold B_law_rows
 walk_at "go"
 rw [lports_ok hp]
 walk_at "go"
 refine R.W_mono (allowed_ok hp ht s) ?_
 rintro _ s1 ⟨rfl, rfl⟩
 generalize alwL k h qs.length t = al0 at al alr
 have hg : (s ++ [O.lst (al0.map rW)])[s.length]? = some (.lst ((al0.map rwD).map D.da)) := by rw [map_rW]; exact get_app
 walk_at "go"
 rw [sl_ref hg]
 walk_at "go"
 rw [cutL_map, show (40 : Int) = ((40 : Nat) : Int) from rfl, cut_to, List.take_of_length_le al, map_rW]
 refine loop_inv (RowJ s n (c + 80) qs.length t p h (.tup (qs.map PyData.str)) 80) ?_ ?_ _ _ _ ⟨al0, al0, s.length, c, none, none, none, rfl, rfl, get_app, Nat.le_refl _, alr, alr, by omega, hf.ext (Ext.add _ _), by omega, (Ext.add _ _).same n⟩
 ·rintro d r ρ s1 ⟨l, found, fr, c', u, v, w, hr, rfl, hs, hfr, h1, h2, h3, fd, hcc, sm⟩
  obtain ⟨x, l, rfl, rfl, rfl⟩ := map_cons_inv hr
  have hx := h2 x List.mem_cons_self
  rw [List.length_cons] at h3 hcc
  refine ⟨_, l_nm6, ?_⟩
  walk_at "go"
  rw [List.length_map]
  refine R.W_mono (draw_ok fd (by omega) (by omega) (by omega)) ?_
  rintro _ s2 ⟨i, rfl, i0, i1, fd2, sm2⟩
  obtain ⟨q, rfl⟩ : ∃ q : Nat, i = (q : Int) := ⟨i.toNat, by omega⟩
  walk_at "go"
  rw [show rW x = .tup (x.map oD) from rfl]
  walk_at "go"
  refine R.W_mono (draw_ok fd2 (by decide) (by decide) (by omega)) ?_
  rintro _ s3 ⟨j, rfl, j0, j1, fd3, sm3⟩
  obtain ⟨a, ha, hix⟩ := pick4 j0 j1
  walk_at "go"
  rw [hix]
  walk_at "go"
  rw [cutL_map, cut_to, gAdd_tup (by have := hx.len; simp; omega)]
  walk_at "go"
  rw [cutL_map, show ((q : Int) + 1) = ((q + 1 : Nat) : Int) by omega, cut_from _ _ (by rw [hx.len]; omega), gAdd_tup (by have := hx.len; simp; omega)]
  walk_at "go"
  have hfl := (List.getElem?_eq_some_iff.mp hs).1
  have hs3 : s3[fr]? = some (.lst (found.map rW)) := by rw [sm3.get _ (by omega) (Nat.lt_of_lt_of_le hfl sm2.len), sm2.get _ (by omega) hfl]; exact hs
  rw [add_refN hs3 (by simp; omega)]
  walk_at "go"
  refine ⟨l, found ++ [x.take q ++ [a] ++ x.drop (q + 1)], s3.length, c' + 2, _, _, _, rfl, rfl, ?_, ?_, ?_, fun r hr => h2 r (List.mem_cons_of_mem _ hr), by simp; omega, fd3.ext (Ext.add _ _), by omega, same_push (sm.trans (sm2.trans sm3)) _⟩
  ·rw [get_app]
   simp [rwD]
  ·exact Nat.le_trans (Nat.le_trans sm.len sm2.len) sm3.len
  ·intro r hr
   rcases List.mem_append.mp hr with z | z
   ·exact h1 r z
   ·rw [List.mem_singleton.mp z]
    exact row_put hx ha (by omega)
 ·rintro ρ s1 ⟨l, found, fr, c', u, v, w, hr, rfl, hs, hfr, h1, h2, h3, fd, hcc, sm⟩
  have := nil_map_inv hr
  subst this
  simp only [List.length_nil] at h3 hcc
  walk_at "go"
  rw [rng_ok (by decide) (by decide)]
  walk_at "go"
  refine loop_inv (Row2J s n (c + 150) qs.length t p h (.tup (qs.map PyData.str))) ?_ ?_ _ _ _ ⟨found, fr, c', u, v, w, rfl, hs, hfr, h1, by rw [rng_len]; show found.length + 4 <= 90; omega, fd, by rw [rng_len]; show c' + 13 * 4 <= _; omega, sm⟩
  ·rintro d r ρ s2 ⟨found, fr, c', u, v, w, rfl, hs, hfr, h1, h3, fd, hcc, sm⟩
   rw [List.length_cons] at h3 hcc
   have hfl := (List.getElem?_eq_some_iff.mp hs).1
   refine ⟨_, l_nm8, ?_⟩
   walk_at "go"
   rw [e_mt1 hs]
   walk_at "go"
   rw [e_lc1 (ρ0 := [none, some (.ref n)]) (by simp; omega) rfl]
   simp only [R.W_bindk]
   refine R.W_mono (comp_inv (acc := []) (Q := fun xs s' => ∃ as : List (Option Int), xs = as.map (fun a => D.da (oD a)) /\ (∀ a ∈ as, smallO a) /\ as.length = qs.length /\ Fd s' n (c' + 13) /\ Same n s2 s') (PickJ s2 n (c' + 13) qs.length) ?_ ?_ _ _ ?_) ?_
   ·rintro d r acc s3 ⟨as, c2, rfl, ha, hal, fd3, hc3, sm3⟩
    rw [List.length_cons] at hal hc3
    refine ⟨_, l_nm0, ?_⟩
    walk_at "go"
    refine R.W_mono (draw_ok fd3 (by decide) (by decide) (by omega)) ?_
    rintro _ s4 ⟨j, rfl, j0, j1, fd4, sm4⟩
    obtain ⟨a, ha', hix⟩ := pick5 j0 j1
    walk_at "go"
    rw [hix]
    walk_at "go"
    refine ⟨as ++ [a], c2 + 1, by simp, fun b hb => ?_, by simp; omega, fd4, by omega, sm3.trans sm4⟩
    rcases List.mem_append.mp hb with z | z
    ·exact ha b z
    ·rw [List.mem_singleton.mp z]; exact ha'
   ·rintro acc s3 ⟨as, c2, rfl, ha, hal, fd3, hc3, sm3⟩
    exact ⟨as, rfl, ha, by simpa using hal, fd3.le (by simpa using hc3), sm3⟩
   ·exact ⟨[], c', rfl, fun a h => (by cases h), by simp, fd, by simp; omega, Same.refl _ _⟩
   ·rintro xs s3 ⟨as, e, ha, hal, fd3, sm3⟩
    rw [List.nil_append] at e
    subst e
    rw [show as.map (fun a => D.da (oD a)) = (as.map oD).map D.da by rw [List.map_map]; rfl]
    walk_at "go"
    have hs3 : s3[fr]? = some (.lst (found.map rW)) := by rw [sm3.get _ (by omega) hfl]; exact hs
    rw [append_ok hs3 (by simp; omega)]
    walk_at "go"
    refine ⟨found ++ [as], fr, c' + 13, _, _, _, rfl, ?_, hfr, ?_, by simp; omega, fd3.set (by omega), by omega, (sm.trans sm3).own hfr⟩
    ·rw [List.getElem?_set_self (Nat.lt_of_lt_of_le hfl sm3.len)]
     simp [rwD]
    ·intro r hr
     rcases List.mem_append.mp hr with z | z
     ·exact h1 r z
     ·rw [List.mem_singleton.mp z]
      exact ⟨hal, fun i hi => ha _ hi i rfl⟩
  ·rintro ρ s2 ⟨found, fr, c', u, v, w, rfl, hs, hfr, h1, h3, fd, hcc, sm⟩
   simp only [List.length_nil] at h3 hcc
   walk_at "go"
   rw [← map_rW] at hs
   rw [frz_ref hs (pures_da _)]
   walk_at "go"
   exact ⟨found, rfl, h1, by omega, (fd.set (by omega)).le (by omega), sm.own hfr⟩
end Ln
namespace Ln
open PySem L2 PF
theorem in_alw {s : S} {a : Nat} {n : Nat} {al : List (List (Option Int))} {r : List (Option Int)} (h : s[a]? = some (.lst (al.map rW))) (hr : RowK n r) (ha : ∀ r ∈ al, RowK n r) : gIn (.da (rwD r)) (.ref a) s = .ok (.bl (decide (r ∈ al))) s := by
 rw [← map_rW] at h
 show gInS false (.da (rwD r)) (.ref a) s = _
 unfold gInS
 rw [toP_ref h, show toP s (.da (rwD r)) = some (rwD r) from rfl]
 show (if okD (rwD r) = true /\ (al.map rwD).all okD = true then R.ok (D.bl (nb false ((al.map rwD).any fun d => PyData.eqv d (rwD r)))) s else .bad) = _
 rw [if_pos ⟨hr.okD, by
  rw [List.all_eq_true]
  intro d hd
  obtain ⟨x, hx, rfl⟩ := List.mem_map.mp hd
  exact (ha x hx).okD⟩]
 have : ((al.map rwD).any fun d => PyData.eqv d (rwD r)) = decide (r ∈ al) := by
  rw [List.any_map, Bool.eq_iff_iff, List.any_eq_true, decide_eq_true_eq]
  constructor
  ·rintro ⟨x, hx, e⟩
   have e : PyData.eqvAll (x.map oD) (r.map oD) = true := e
   rw [eqvs_oD, decide_eq_true_eq] at e
   exact e ▸ hx
  ·intro hx
   refine ⟨r, hx, ?_⟩
   show PyData.eqvAll (r.map oD) (r.map oD) = true
   rw [eqvs_oD, decide_eq_true_eq]
 rw [this]; rfl
theorem nice_of_bool (b : Bool) : okS (.bool b) = true := (nice_bool b).okS (by decide) (by decide)
theorem nice_two {p m : PyData} (h1 : Nice 400 2 p) (h2 : Nice 400 2 m) : okS (.list [p, m]) = true := ((Nices.cons h1 (Nices.cons h2 Nices.nil)).lst).okS (by decide) (by decide)
noncomputable def othr : List Str := ["m", "mm", "aa", "zy"]
structure MoreJ (s : S) (n c : Nat) (qs : List Str) (r acc : List D) (s' : S) : Prop where
 ex : ∃ (l : List Str) (more : List (Str × Int)) (c' : Nat), r = l.map (fun x => D.str x) /\ acc = more.map (fun p => D.da (pr p)) /\ (∀ x ∈ l, x ∉ qs /\ okPort x = true) /\ (∀ p ∈ more, p.1 ∉ qs /\ okPort p.1 = true /\ 0 <= p.2 /\ p.2 < 3) /\ more.length + l.length <= 4 /\ Fd s' n c' /\ c' + 2 * l.length <= c /\ Same n s s'
structure RightJ (s : S) (n c t : Nat) (p : PyData) (k : Kd) (qs : List Str) (h : Option Int) (r : List D) (ρ : En) (s' : S) : Prop where
 ex : ∃ (l : List (List (Option Int))) (c' : Nat) (u7 u8 u9 u10 u11 u12 : Option D), r = l.map rW /\ ρ = [some (.ref n), some (.int (t : Int)), some (.da p), some (.da (oD h)), some (.tup (qs.map PyData.str)), some (.ref s.length), some (.lst ((othr.filter fun x => !decide (x ∈ qs)).map PyData.str)), u7, u8, u9, u10, u11, u12] /\
  s'[s.length]? = some (.lst ((alwL k h qs.length t).map rW)) /\ (∀ r ∈ l, RowK qs.length r) /\ Fd s' n c' /\ c' + 8 * l.length <= c /\ Same n s s'
noncomputable def tooB (t : Nat) (a : Option Int) : Bool := match a with
 | none => false
 | some i => decide ((t : Int) <= i)
theorem right_ok {s : S} {n c t : Nat} {p : PyData} {k : Kd} {qs : List Str} {h : Option Int} (hf : Fd s n c) (hp : PtK p k qs) (h1 : 1 <= t) (ht : t <= 3) (hh : two2 t h) (hq : 0 < qs.length) (hc : c + 1000 < 2 ^ 40) :
  (F_law_right [.ref n, .int (t : Int), .da p, .da (oD h)] s).W fun d s' => d = .bl true /\ Fd s' n (c + 950) /\ Same n s s' := by
 have hl := hp.len
 have hn := hf.lt
 have alr : ∀ r ∈ alwL k h qs.length t, RowK qs.length r := fun r hr => alw_row hp.pd ht hh hr
 have ot : ∀ x ∈ othr, okPort x = true := by decide +kernel
 rw [e_law_right]; unfold B_law_right
 walk_at "go"
 rw [lports_ok hp]
 walk_at "go"
 refine R.W_mono (allowed_ok hp ht s) ?_
 rintro _ s1 ⟨rfl, rfl⟩
 have hg : (s ++ [O.lst ((alwL k h qs.length t).map rW)])[s.length]? = some (.lst ((alwL k h qs.length t).map rW)) := get_app
 walk_at "go"
 rw [show ([PyData.str "m", PyData.str "mm", PyData.str "aa", PyData.str "zy"].map D.da) = othr.map (fun x => D.str x) from rfl]
 rw [e_lc1 (ρ0 := [none, some (.tup (qs.map PyData.str))]) (by decide) rfl]
 rw [comp_da (fun x : Str => D.str x) (fun x => !decide (x ∈ qs)) PyData.str othr (fun x hx => ⟨_, l_nm0, by
  walk_at "ev"
  rw [gNotIn_tupS (okD_port (ot x hx)) fun y hy => okD_port (hp.ok y hy)]
  walk_at "ev", fun _ => by walk_at "ev"⟩)]
 walk_at "go"
 refine R.W_mono (rows_ok (hf.ext (Ext.add s [O.lst ((alwL k h qs.length t).map rW)])) hp ht hh hq (by omega)) ?_
 rintro _ s1 ⟨rows, rfl, hrow, hrl, fd1, sm1⟩
 walk_at "go"
 rw [map_rW]
 have hg1 : s1[s.length]? = some (.lst ((alwL k h qs.length t).map rW)) := by rw [sm1.get _ (by omega) (by simp)]; exact hg
 refine loop_inv (RightJ s n (c + 950) t p k qs h) ?_ ?_ _ _ _ ⟨rows, c + 150, none, none, none, none, none, none, rfl, rfl, hg1, hrow, fd1, by omega, ((Ext.add s _).same n).trans sm1⟩
 ·rintro d r ρ s2 ⟨l, c', u7, u8, u9, u10, u11, u12, hr, rfl, hs, hrl, fd, hcc, sm⟩
  obtain ⟨x, l, rfl, rfl, rfl⟩ := map_cons_inv hr
  have hx := hrl x List.mem_cons_self
  have hxl := hx.len
  have hfl := (List.getElem?_eq_some_iff.mp hs).1
  rw [List.length_cons] at hcc
  have nxt : ∀ (v8 v9 v10 v11 v12 : Option D) (c3 : Nat) (s3 : S), Fd s3 n c3 -> c3 <= c' + 8 -> Same n s2 s3 -> RightJ s n (c + 950) t p k qs h (l.map rW) [some (.ref n), some (.int (t : Int)), some (.da p), some (.da (oD h)), some (.tup (qs.map PyData.str)), some (.ref s.length), some (.lst ((othr.filter fun x => !decide (x ∈ qs)).map PyData.str)), some (rW x), v8, v9, v10, v11, v12] s3 :=
   fun v8 v9 v10 v11 v12 c3 s3 f3 h3 m3 => ⟨l, c3, _, _, _, _, _, _, rfl, rfl, by rw [m3.get _ (by omega) hfl]; exact hs, fun r hr => hrl r (List.mem_cons_of_mem _ hr), f3, by omega, sm.trans m3⟩
  refine ⟨_, l_nm7, ?_⟩
  rw [show rW x = .tup (x.map oD) from rfl]
  walk_at "go"
  rw [show (x.map oD).map D.da = x.map (fun a => D.da (oD a)) by rw [List.map_map]; rfl]
  rw [e_lc1 (ρ0 := [none, some (.int (t : Int))]) (by simp; omega) rfl]
  rw [comp_da (fun a : Option Int => D.da (oD a)) (tooB t) oD x (fun a _ => ⟨_, l_nm0, by
   cases a with
   | none => walk_at "ev"; rfl
   | some i =>
    walk_at "ev"
    rw [isN_oD]
    simp only [reduceCtorEq, decide_false, Bool.not_false]
    rw [show oD (some i) = .int i from rfl]
    walk_at "ev"
    rfl, fun _ => by walk_at "ev"⟩)]
  walk_at "go"
  have ge := gEq_os (s := s2) (a := x.filter (tooB t)) (b := [])
  rw [show ([] : List (Option Int)).map oD = [] from rfl] at ge
  rw [ge]
  by_cases few : x.filter (tooB t) = []
  ·have hb : ∀ i, some i ∈ x -> 0 <= i /\ i < t := fun i hi => by
    have := List.filter_eq_nil_iff.mp few (some i) hi
    simp [tooB] at this
    exact ⟨(hx.ok i hi).1, this⟩
   rw [decide_eq_true few]
   walk_at "go"
   rw [show ((othr.filter fun x => !decide (x ∈ qs)).map PyData.str).map D.da = (othr.filter fun x => !decide (x ∈ qs)).map (fun x => D.str x) by rw [List.map_map]; rfl]
   have ofl : (othr.filter fun x => !decide (x ∈ qs)).length <= 4 := List.length_filter_le _ _
   rw [e_lc1 (ρ0 := [none, some (.ref n), some (.int (t : Int))]) (by rw [List.length_map]; omega) rfl]
   simp only [R.W_bindk]
   refine R.W_mono (comp_inv (acc := []) (Q := fun xs s' => ∃ more : List (Str × Int), xs = more.map (fun p => D.da (pr p)) /\ (∀ p ∈ more, p.1 ∉ qs /\ okPort p.1 = true /\ 0 <= p.2 /\ p.2 < 3) /\ more.length <= 4 /\ Fd s' n (c' + 8) /\ Same n s2 s') (MoreJ s2 n (c' + 8) qs) ?_ ?_ _ _ ?_) ?_
   ·rintro d r acc s3 ⟨l, more, c2, hr, rfl, hl2, hm, hml, fd3, hc3, sm3⟩
    obtain ⟨y, l, rfl, rfl, rfl⟩ := map_cons_inv hr
    rw [List.length_cons] at hml hc3
    refine ⟨_, l_nm0, ?_⟩
    walk_at "go"
    refine R.W_mono (draw_ok fd3 (by decide) (by decide) (by omega)) ?_
    rintro _ s4 ⟨j, rfl, j0, j1, fd4, sm4⟩
    walk_at "go"
    rw [gEq_da rfl rfl, show PyData.eqv (.int j) (.int 0) = (j == 0) from rfl]
    walk_at "go"
    split
    ·refine R.W_mono (draw_ok fd4 (by omega) (by omega) (by omega)) ?_
     rintro _ s5 ⟨i, rfl, i0, i1, fd5, sm5⟩
     walk_at "go"
     refine ⟨l, more ++ [(y, i)], c2 + 2, rfl, by simp [pr], fun z hz => hl2 z (List.mem_cons_of_mem _ hz), fun q hq => ?_, by simp; omega, fd5, by omega, sm3.trans (sm4.trans sm5)⟩
     rcases List.mem_append.mp hq with z | z
     ·exact hm q z
     ·rw [List.mem_singleton.mp z]
      exact ⟨(hl2 y List.mem_cons_self).1, (hl2 y List.mem_cons_self).2, i0, by show i < 3; omega⟩
    ·exact ⟨l, more, c2 + 1, rfl, rfl, fun z hz => hl2 z (List.mem_cons_of_mem _ hz), hm, by omega, fd4, by omega, sm3.trans sm4⟩
   ·rintro acc s3 ⟨l, more, c2, hr, rfl, hl2, hm, hml, fd3, hc3, sm3⟩
    have := nil_map_inv hr
    subst this
    exact ⟨more, rfl, hm, by simpa using hml, fd3.le (by simpa using hc3), sm3⟩
   ·refine ⟨_, [], c', rfl, rfl, fun y hy => ?_, fun q hq => (by cases hq), by simpa using ofl, fd, by omega, Same.refl _ _⟩
    have := List.mem_filter.mp hy
    exact ⟨by simpa using this.2, ot y this.1⟩
   ·rintro xs s3 ⟨more, e, hm, hml, fd3, sm3⟩
    rw [List.nil_append] at e
    subst e
    rw [show more.map (fun p => D.da (pr p)) = (more.map pr).map D.da by rw [List.map_map]; rfl]
    walk_at "go"
    refine R.W_mono (moment_ok (n := 0) hp.nd hp.ok hl hx hml hm s3) ?_
    rintro _ s9 ⟨e9, m, rfl, hmom⟩
    rw [e9]
    clear e9
    have hrep := nice_two hp.nice hmom.nice
    walk_at "go"
    rw [repr_da hrep]
    walk_at "go"
    have hs3 : s3[s.length]? = some (.lst ((alwL k h qs.length t).map rW)) := by rw [sm3.get _ (by omega) hfl]; exact hs
    have hdue : decide (x ∈ alwL k h qs.length t) = letB k h x := by
     (rw [Bool.eq_iff_iff, decide_eq_true_eq])
     exact alw_iff hp.pd hxl hb
    rw [show gIn (.tup (x.map oD)) (.ref s.length) s3 = .ok (.bl (decide (x ∈ alwL k h qs.length t))) s3 from in_alw hs3 hx alr, hdue]
    walk_at "go"
    refine R.W_mono (lets_ok (h := h) hp hx hmom s3) ?_
    rintro _ s4 ⟨rfl, x4⟩
    walk_at "go"
    rw [repr_da (nice_of_bool _)]
    walk_at "go"
    rw [repr_da (nice_of_bool _)]
    walk_at "go"
    rw [gNe_s]
    simp only [decide_true, Bool.not_true]
    walk_at "go"
    rw [repr_da hrep]
    walk_at "go"
    rw [gNe_s]
    simp only [decide_true, Bool.not_true]
    walk_at "go"
    cases hb2 : letB k h x with
    | false =>
     walk_at "go"
     exact nxt _ _ _ _ _ _ _ (fd3.ext x4) (Nat.le_refl _) (sm3.trans (x4.same n))
    | true =>
     walk_at "go"
     refine R.W_mono (held_ok (h := h) hp hx hmom s4) ?_
     rintro _ s5 ⟨rfl, x5⟩
     have hbeh : okS (oD (behB k h x)) = true := by
      refine (nice_oD (a := behB k h x) fun i e => ?_).okS (by decide) (by decide)
      have hho : ∀ j, h = some j -> 0 <= j /\ j < 3 := fun j e => by
       rcases hh with q | ⟨m, hm, q⟩
       ·rw [q] at e; cases e
       ·rw [q] at e; cases e; omega
      unfold behB at e
      split at e
      ·split at e
       ·split at e
        ·exact hho i e
        ·cases e
       ·exact hx.ok i (by rw [e]; simp)
      ·split at e
       ·exact hho i e
       ·exact hx.ok i (by rw [e]; simp)
      ·cases e
     walk_at "go"
     rw [repr_da hbeh]
     walk_at "go"
     rw [show F_law_behind [.da p, .da (oD h), .tup (x.map oD)] s5 = .ok (.da (oD (behB k h x))) s5 from behind_ok hp hx s5]
     walk_at "go"
     rw [repr_da hbeh]
     walk_at "go"
     rw [gNe_s]
     simp only [decide_true, Bool.not_true]
     walk_at "go"
     exact nxt _ _ _ _ _ _ _ ((fd3.ext x4).ext x5) (Nat.le_refl _) ((sm3.trans (x4.same n)).trans (x5.same n))
  ·rw [decide_eq_false few]
   walk_at "go"
   exact nxt _ _ _ _ _ _ _ fd (by omega) (Same.refl _ _)
 ·rintro ρ s2 ⟨l, c', u7, u8, u9, u10, u11, u12, hr, rfl, hs, hrl, fd, hcc, sm⟩
  walk_at "go"
  exact ⟨trivial, fd.le (by omega), sm⟩
end Ln
namespace Ln
open PySem L2 PF
theorem feed_ok (ns : List Int) : (F_law_feed [.frz (ns.map PyData.int)] []).W fun d s' => d = .ref 0 /\ Fd s' 0 0 := by
 rw [e_law_feed]; unfold B_law_feed
 walk_at "go"
 refine ⟨trivial, ns.take 63, 0, 0, 0, ?_, by simp; omega, by decide, by decide, by decide⟩
 rw [cutL_map, show (63 : Int) = ((63 : Nat) : Int) from rfl, cut_to]
 rfl
noncomputable def qn (j : Nat) : Str := "q" ++ ⟨#[(("abcdefghijkl" : Str).cps.toList.getD j 0)]⟩
theorem qn_all : (("p" : Str) :: (List.range 12).map qn).Nodup /\ ∀ x ∈ (("p" : Str) :: (List.range 12).map qn), okPort x = true := by decide +kernel
theorem abc_len : ("abcdefghijkl" : Str).length <= 16777216 /\ ("abcdefghijkl" : Str).cps.toList.length = 12 /\ ("q" : Str).length <= 5 := by decide +kernel
theorem ix_abc {j : Nat} (hj : j < 12) (s : S) : gIx (.str "abcdefghijkl") (.int (j : Int)) s = .ok (.str ⟨#[(("abcdefghijkl" : Str).cps.toList.getD j 0)]⟩) s := by
 have hl : j < ("abcdefghijkl" : Str).cps.toList.length := by rw [abc_len.2.1]; exact hj
 show (if ("abcdefghijkl" : Str).length <= sizeLine then (match atI ("abcdefghijkl" : Str).cps.toList (j : Int) with | some c => R.ok (D.str ⟨#[c]⟩) s | none => .bad) else .bad) = _
 rw [if_pos (by rw [sizeLine_eq']; exact abc_len.1), atI_nat (v := ("abcdefghijkl" : Str).cps.toList.getD j 0) (by rw [List.getD_eq_getElem?_getD, List.getElem?_eq_getElem hl]; rfl)]
theorem qn_pre {N : Nat} (h : N <= 12) : (List.range N).map qn = ((List.range 12).map qn).take N := by
 rw [← List.map_take, List.take_range, Nat.min_eq_left h]
theorem qn_nd {N : Nat} (h : N <= 12) : (("p" : Str) :: (List.range N).map qn).Nodup := by
 rw [qn_pre h]
 exact ((List.take_sublist _ _).cons₂ _).nodup qn_all.1
theorem qn_ok {N : Nat} (h : N <= 12) : ∀ x ∈ (("p" : Str) :: (List.range N).map qn), okPort x = true := fun x hx => by
 rw [qn_pre h] at hx
 exact qn_all.2 x (((List.take_sublist _ _).cons₂ _).subset hx)
theorem knot_copy {N : Nat} (h : N <= 12) : PtK (.tuple [.str "copy", .str "p", .tuple (((List.range N).map qn).map .str)]) .copy ("p" :: (List.range N).map qn) := by
 have ok := qn_ok h
 have nt := (nices_strs ((List.range N).map qn) fun x hx => ok x (List.mem_cons_of_mem _ hx)).tup
 have z1 : (0 : Nat) <= 1 := by decide
 have wc : okPort "copy" = true := by decide +kernel
 refine ⟨.copy, qn_nd h, ok, by simp; omega, ?_⟩
 rw [List.length_map, List.length_range] at nt
 exact (Nices.cons ((nice_str wc).mono (Nat.le_refl _) z1) (Nices.cons ((nice_str (ok _ List.mem_cons_self)).mono (Nat.le_refl _) z1) (Nices.cons nt Nices.nil))).tup.mono (by omega) (by omega)
theorem knot_merge {N : Nat} (h : N <= 12) : PtK (.tuple [.str "merge", .tuple (((List.range N).map qn).map .str), .str "p"]) .merge ((List.range N).map qn ++ [("p" : Str)]) := by
 have ok := qn_ok h
 have nt := (nices_strs ((List.range N).map qn) fun x hx => ok x (List.mem_cons_of_mem _ hx)).tup
 have z1 : (0 : Nat) <= 1 := by decide
 have wc : okPort "merge" = true := by decide +kernel
 have pm : ((List.range N).map qn ++ [("p" : Str)]).Perm (("p" : Str) :: (List.range N).map qn) := List.perm_append_comm
 refine ⟨.merge, pm.nodup_iff.mpr (qn_nd h), fun x hx => ok x (pm.mem_iff.mp hx), by simp; omega, ?_⟩
 rw [List.length_map, List.length_range] at nt
 exact (Nices.cons ((nice_str wc).mono (Nat.le_refl _) z1) (Nices.cons nt (Nices.cons ((nice_str (ok _ List.mem_cons_self)).mono (Nat.le_refl _) z1) Nices.nil))).tup.mono (by omega) (by omega)
theorem PtD.pl {p : PyData} {k : Kd} {qs : List Str} (h : PtD p k qs) : 0 < qs.length /\ ∃ (w : Str) (pt : List PyData) (b : Bool), p = .tuple (.str w :: pt) /\ ∀ s : S, gIn (.str w) (.tup [.str "place", .str "last"]) s = .ok (.bl b) s := by
 cases h with
 | two hw =>
  refine ⟨by simp, ?_⟩
  cases hw
  ·exact ⟨_, _, _, rfl, pl_tab.1⟩
  ·exact ⟨_, _, _, rfl, pl_tab.2.1⟩
  ·exact ⟨_, _, _, rfl, pl_tab.2.2.1⟩
  ·exact ⟨_, _, _, rfl, pl_tab.2.2.2.1⟩
  ·exact ⟨_, _, _, rfl, pl_tab.2.2.2.2.2.1⟩
  ·exact ⟨_, _, _, rfl, pl_tab.2.2.2.2.2.2.1⟩
  ·exact ⟨_, _, _, rfl, pl_tab.2.2.2.2.1⟩
 | copy => exact ⟨by simp, _, _, _, rfl, pl_tab.2.2.2.2.2.2.2.1⟩
 | merge => exact ⟨by simp, _, _, _, rfl, pl_tab.2.2.2.2.2.2.2.2⟩
structure HoldJ (c t : Nat) (scr : D) (p : PyData) (k : Kd) (qs : List Str) (r : List D) (ρ : En) (s : S) : Prop where
 ex : ∃ (l : List (Option Int)) (c' : Nat) (u2 u5 u6 u7 : Option D), r = l.map (fun a => D.da (oD a)) /\ ρ = [some scr, some (.ref 0), u2, some (.int (t : Int)), some (.da p), u5, u6, u7] /\ (∀ a ∈ l, two2 t a) /\ Fd s 0 c' /\ c' + 950 * l.length <= c
structure LawJ (scr : D) (r : List D) (ρ : En) (s : S) : Prop where
 ex : ∃ (c' : Nat) (u2 u3 u4 u5 u6 u7 : Option D), ρ = [some scr, some (.ref 0), u2, u3, u4, u5, u6, u7] /\ Fd s 0 c' /\ c' + 5000 * r.length <= 40000
noncomputable def LB2 : FS := (fSeq (fSet 6 (fLst false (fCons (fC (.da (.none))) fNil)))
  (fSeq (fIfS (fTest (fOp gIn (fOp gIx (fVar 4) (fC (.da (.int 0)))) (fTup (fVs (List.map D.da [.str "place", .str "last"]))))) (fSet 6 (fOp (gAdd false) (fLst false (fCons (fC (.da (.none))) fNil)) (fCB (gListR false) (fCons (fVar 3) fNil)))) fNext)
  (fFor (fIt (fVar 6)) (.nm 7) (fIfS (fNotT (fTru (fCall 4 F_law_right (fCons (fVar 1) (fCons (fVar 3) (fCons (fVar 4) (fCons (fVar 7) fNil))))))) (fRet (fC (.da (.bool false)))) fNext))))
theorem lb2_ok {scr : D} {r : List D} {u2 u5 u6 u7 : Option D} {p : PyData} {k : Kd} {qs : List Str} {t c : Nat} {s : S} {Q : Fl -> S -> Prop} (hp : PtK p k qs) (h1 : 1 <= t) (ht : t <= 3) (hf : Fd s 0 c) (hc : c + 4500 + 5000 * r.length <= 40000) :
  (LB2 [some scr, some (.ref 0), u2, some (.int (t : Int)), some (.da p), u5, u6, u7] s).W (flW (LawJ scr r) Q) := by
 obtain ⟨hq, w, pt, b, hw, hin⟩ := hp.pd.pl
 have e0 : ∀ s1, gIx (.da p) (.int 0) s1 = .ok (.str w) s1 := fun s1 => by rw [hw]; exact it0
 have loop : ∀ (l : List (Option Int)) (u6 : Option D), l.length <= 4 -> (∀ a ∈ l, two2 t a) ->
   (loopF (.nm 7) (fIfS (fNotT (fTru (fCall 4 F_law_right (fCons (fVar 1) (fCons (fVar 3) (fCons (fVar 4) (fCons (fVar 7) fNil))))))) (fRet (fC (.da (.bool false)))) fNext) ((l.map oD).map D.da, none) ((l.map oD).map D.da) [some scr, some (.ref 0), u2, some (.int (t : Int)), some (.da p), u5, u6, u7] s).W (flW (LawJ scr r) Q) := by
  intro l u6 hl ha
  refine loop_inv (HoldJ (c + 4500) t scr p k qs) ?_ ?_ _ _ _ ⟨l, c, u2, u5, u6, u7, by rw [List.map_map]; rfl, rfl, ha, hf, by omega⟩
  ·rintro d r ρ s2 ⟨l, c', u2, u5, u6, u7, hr, rfl, ha, fd, hcc⟩
   obtain ⟨x, l, rfl, rfl, rfl⟩ := map_cons_inv hr
   rw [List.length_cons] at hcc
   refine ⟨_, l_nm7, ?_⟩
   walk_at "go"
   refine R.W_mono (right_ok fd hp h1 ht (ha x List.mem_cons_self) hq (by omega)) ?_
   rintro _ s3 ⟨rfl, fd3, sm3⟩
   walk_at "go"
   exact ⟨l, _, _, _, _, _, rfl, rfl, fun a h => ha a (List.mem_cons_of_mem _ h), fd3, by omega⟩
  ·rintro ρ s2 ⟨l, c', u2, u5, u6, u7, hr, rfl, ha, fd, hcc⟩
   exact ⟨c', _, _, _, _, _, _, rfl, fd, by omega⟩
 unfold LB2
 walk_at "go"
 rw [e0]
 walk_at "go"
 rw [hin]
 cases b with
 | false =>
  walk_at "go"
  exact loop [none] _ (by simp) (by intro a h; rw [List.mem_singleton.mp h]; exact .inl rfl)
 | true =>
  walk_at "go"
  rw [listR_ok (by omega) (by omega), Int.toNat_natCast]
  walk_at "go"
  rw [gAdd_lst (by simp; omega)]
  walk_at "go"
  have e : PyData.none :: (List.range t).map (fun i : Nat => PyData.int (i : Int)) = ((none : Option Int) :: (List.range t).map fun i : Nat => some (i : Int)).map oD := by
   rw [List.map_cons, List.map_map]; rfl
  rw [show (List.map D.da (PyData.none :: (List.range t).map (fun i : Nat => PyData.int (i : Int)))) = (((none : Option Int) :: (List.range t).map fun i : Nat => some (i : Int)).map oD).map D.da by rw [e]]
  refine loop _ _ (by simp; omega) ?_
  intro a h
  (rcases List.mem_cons.mp h with rfl | h)
  ·exact .inl rfl
  ·obtain ⟨i, hi, rfl⟩ := List.mem_map.mp h
   exact .inr ⟨i, List.mem_range.mp hi, rfl⟩
theorem law_true (ns : List Int) : (Flaw [.frz (ns.map PyData.int)] []).W fun d _ => d = .bl true := by
 rw [elaw]
 rw [show Blaw = (fSeq (fSet 1 (fCall 1 F_law_feed (fCons (fVar 0) fNil)))
  (fSeq (fFor (fRng (fCons (fC (.da (.int 6))) fNil)) (.nm 2) (fSeq (fSet 3 (fOp (gAdd false) (fC (.da (.int 1))) (fCall 2 F_law_draw (fCons (fVar 1) (fCons (fC (.da (.int 3))) fNil)))))
  (fSeq (fSet 4 (fCall 3 F_law_part (fCons (fVar 1) (fCons (fVar 3) (fCons (fCall 2 F_law_ports (fCons (fVar 1) (fCons (fOp (gAdd false) (fC (.da (.int 2))) (fCall 2 F_law_draw (fCons (fVar 1) (fCons (fC (.da (.int 6))) fNil)))) fNil))) fNil)))))
  (fSeq (fIfS (fTest (fOp gEq (fCall 2 F_law_draw (fCons (fVar 1) (fCons (fC (.da (.int 6))) fNil))) (fC (.da (.int 0))))) (fSeq (fSet 5 (fCB gTuple (fCons (fLc false [] 1 (fRng (fCons (fOp (gAdd false) (fC (.da (.int 5))) (fCall 2 F_law_draw (fCons (fVar 1) (fCons (fC (.da (.int 8))) fNil)))) fNil)) (.nm 0) fYes (fOp (gAdd false) (fC (.da (.str "q"))) (fOp gIx (fC (.da (.str "abcdefghijkl"))) (fVar 0)))) fNil)))
  (fSet 4 (fOp gIx (fLst false (fCons (fTup (fCons (fC (.da (.str "copy"))) (fCons (fC (.da (.str "p"))) (fCons (fVar 5) fNil)))) (fCons (fTup (fCons (fC (.da (.str "merge"))) (fCons (fVar 5) (fCons (fC (.da (.str "p"))) fNil)))) fNil))) (fCall 2 F_law_draw (fCons (fVar 1) (fCons (fC (.da (.int 2))) fNil)))))) fNext)
  LB2))))
  (fRet (fC (.da (.bool true)))))) from rfl]
 generalize hscr : D.frz (ns.map PyData.int) = scr
 walk_at "go"
 rw [← hscr]
 refine R.W_mono (feed_ok ns) ?_
 rw [hscr]
 rintro _ s1 ⟨rfl, fd1⟩
 walk_at "go"
 rw [rng_ok (by decide) (by decide)]
 walk_at "go"
 refine loop_inv (LawJ scr) ?_ ?_ _ _ _ ⟨0, none, none, none, none, none, none, rfl, fd1, by rw [rng_len]; decide⟩
 ·rintro d r ρ s2 ⟨c', u2, u3, u4, u5, u6, u7, rfl, fd2, hc⟩
  rw [List.length_cons] at hc
  refine ⟨_, l_nm2, ?_⟩
  walk_at "go"
  refine R.W_mono (draw_ok fd2 (by decide) (by decide) (by omega)) ?_
  rintro _ s3 ⟨i, rfl, i0, i1, fd3, sm3⟩
  obtain ⟨t, et⟩ : ∃ t : Nat, 1 + i = (t : Int) := ⟨(1 + i).toNat, by omega⟩
  walk_at "go"
  rw [et]
  refine R.W_mono (draw_ok fd3 (by decide) (by decide) (by omega)) ?_
  rintro _ s4 ⟨j, rfl, j0, j1, fd4, sm4⟩
  obtain ⟨q, eq⟩ : ∃ q : Nat, 2 + j = (q : Int) := ⟨(2 + j).toNat, by omega⟩
  walk_at "go"
  rw [eq]
  refine R.W_mono (ports_ok fd4 (by omega) (by omega)) ?_
  rintro _ s5 ⟨ps, rfl, pl, pnd, pok, fd5, sm5⟩
  walk_at "go"
  refine R.W_mono (part_ok fd5 (by omega) (by omega) (by omega) (by omega) pnd (by omega)) ?_
  rintro _ s6 ⟨p, qs, rfl, hpd, fd6, sm6⟩
  obtain ⟨k, hp⟩ := PtK.of (by omega) pok hpd
  walk_at "go"
  refine R.W_mono (draw_ok fd6 (by decide) (by decide) (by omega)) ?_
  rintro _ s7 ⟨y, rfl, y0, y1, fd7, sm7⟩
  walk_at "go"
  rw [gEq_da rfl rfl]
  walk_at "go"
  by_cases hy : PyData.eqv (.int y) (.int 0) = true
  ·rw [hy]
   walk_at "go"
   refine R.W_mono (draw_ok fd7 (by decide) (by decide) (by omega)) ?_
   rintro _ s8 ⟨z, rfl, z0, z1, fd8, sm8⟩
   obtain ⟨N, eN⟩ : ∃ N : Nat, 5 + z = (N : Int) := ⟨(5 + z).toNat, by omega⟩
   walk_at "go"
   rw [eN, rng_ok (by omega) (by omega), Int.toNat_natCast, rng_range]
   walk_at "go"
   rw [e_lc1 (ρ0 := [none]) (by simp; omega) rfl]
   rw [comp_da (fun j : Nat => D.int (j : Int)) (fun _ => true) (fun j => PyData.str (qn j)) (List.range N) (fun j hj => ⟨_, l_nm0, rfl, fun _ => by
    have := List.mem_range.mp hj
    walk_at "ev"
    rw [ix_abc (by omega)]
    walk_at "ev"
    rw [gAdd_str (Nat.le_trans (Nat.add_le_add abc_len.2.2 (Nat.le_refl _)) (by show 5 + 1 <= 16777216; decide))]
    rfl⟩)]
   rw [List.filter_eq_self.mpr (fun _ _ => rfl), show (List.range N).map (fun j => PyData.str (qn j)) = ((List.range N).map qn).map PyData.str by rw [List.map_map]; rfl]
   walk_at "go"
   refine R.W_mono (draw_ok fd8 (by decide) (by decide) (by omega)) ?_
   rintro _ s9 ⟨v, rfl, v0, v1, fd9, sm9⟩
   walk_at "go"
   have : v = 0 \/ v = 1 := by omega
   rcases this with rfl | rfl
   ·walk_at "go"
    exact lb2_ok (knot_copy (by omega)) (by omega) (by omega) fd9 (by omega)
   ·walk_at "go"
    exact lb2_ok (knot_merge (by omega)) (by omega) (by omega) fd9 (by omega)
  ·rw [Bool.not_eq_true] at hy
   rw [hy]
   walk_at "go"
   exact lb2_ok hp (by omega) (by omega) fd7 (by omega)
 ·rintro ρ s2 ⟨c', u2, u3, u4, u5, u6, u7, rfl, fd2, hc⟩
  walk_at "go"
end Ln
namespace Ln
open PySem L2 PF
section
variable {P : Program} {w : World} {K : PySem.W.Frag} {mg : Str -> Option Value} {base : Heap}
theorem fnlaw {f : Addr} {fd : FuncData} (F : Fun K "law" "law" s_law f fd) (T : Txt0 K mg) : FnOk P w K mg base CX0 6 f fd ["_law_script"] (spF K 1 Flaw) := by
 have c_law_feed := ok_law_feed (P := P) (w := w) (base := base) T
 have c_law_draw := ok_law_draw (P := P) (w := w) (base := base) T
 have c_law_ports := ok_law_ports (P := P) (w := w) (base := base) T
 have c_law_part := ok_law_part (P := P) (w := w) (base := base) T
 have c_law_right := ok_law_right (P := P) (w := w) (base := base) T
 exact fnF (k := 5) F sclaw rfl rfl (fun f cdv A outer s H E hr =>
   (rss_cons (rs_set (i := 1) sclaw.nd rfl (Or.inl rfl) (re_c c_law_feed (hr.mono (by decide)) (ra_cons (re_var 0) ra_nil)))
   (rss_cons (rs_for rfl (ri_rng T.n_range (ra_cons re_int ra_nil)) (rg_name (i := 2) sclaw.nd rfl (Or.inl rfl)) (rss_cons (rs_set (i := 3) sclaw.nd rfl (Or.inl rfl) (re_op (o_add false) re_int (re_c c_law_draw (hr.mono (by decide)) (ra_cons (re_var 1) (ra_cons re_int ra_nil)))))
   (rss_cons (rs_set (i := 4) sclaw.nd rfl (Or.inl rfl) (re_c c_law_part (hr.mono (by decide)) (ra_cons (re_var 1) (ra_cons (re_var 3) (ra_cons (re_c c_law_ports (hr.mono (by decide)) (ra_cons (re_var 1) (ra_cons (re_op (o_add false) re_int (re_c c_law_draw (hr.mono (by decide)) (ra_cons (re_var 1) (ra_cons re_int ra_nil)))) ra_nil))) ra_nil)))))
   (rss_cons (rs_if (rt_cmp (o_eq (u64 hr)) (re_c c_law_draw (hr.mono (by decide)) (ra_cons (re_var 1) (ra_cons re_int ra_nil))) re_int) (rss_cons (rs_set (i := 5) sclaw.nd rfl (Or.inl rfl) (re_ct c_tuple T.n_tuple b_tuple (ra_cons (re_lc false (own := ["_law_j"]) (caps := []) (js := []) rfl rfl rfl rfl rfl (trivial) rfl (ri_rng T.n_range (ra_cons (re_op (o_add false) re_int (re_c c_law_draw (hr.mono (by decide)) (ra_cons (re_var 1) (ra_cons re_int ra_nil)))) ra_nil)) (fun _ _ _ _ => (rg_name (i := 0) (show (["_law_j"] : List Str).Nodup by decide +kernel) rfl (Or.inl rfl) (Or.inr rfl))) (fun _ _ _ _ => rifs_nil) (fun _ _ _ _ => (re_op (o_add false) re_str (re_ix re_str (re_var 0))))) ra_nil)))
   (rss_one (rs_set (i := 4) sclaw.nd rfl (Or.inl rfl) (re_ix (re_lst false (ra_cons (re_tup (ra_cons re_str (ra_cons re_str (ra_cons (re_var 5) ra_nil)))) (ra_cons (re_tup (ra_cons re_str (ra_cons (re_var 5) (ra_cons re_str ra_nil)))) ra_nil))) (re_c c_law_draw (hr.mono (by decide)) (ra_cons (re_var 1) (ra_cons re_int ra_nil))))))) rss_nil)
   (rss_cons (rs_set (i := 6) sclaw.nd rfl (Or.inl rfl) (re_lst false (ra_cons re_non ra_nil)))
   (rss_cons (rs_if (rt_cmp (o_in (u65 hr)) (re_ix (re_var 4) re_int) (re_tup (ra_consts rfl))) (rss_one (rs_set (i := 6) sclaw.nd rfl (Or.inl rfl) (re_op (o_add false) (re_lst false (ra_cons re_non ra_nil)) (re_listR false rfl T.n_list T.n_range (ra_cons (re_var 3) ra_nil))))) rss_nil)
   (rss_one (rs_for rfl (ri_any (re_var 6)) (rg_name (i := 7) sclaw.nd rfl (Or.inl rfl)) (rss_one (rs_if (rt_not (rt_tru (re_c c_law_right (hr.mono (by decide)) (ra_cons (re_var 1) (ra_cons (re_var 3) (ra_cons (re_var 4) (ra_cons (re_var 7) ra_nil))))))) (rss_one (rs_ret re_bl)) rss_nil))))))))))
   (rss_one (rs_ret re_bl)))))
end
end Ln
namespace Ln
open PySem L2 PF
theorem bd1 {x : Str} {st : Stmt} {p0 : Str} (h : ∀ (kV doc pm : Value) (an : Option Addr) (cdv ct a0 : Value), bindArgs (PySem.W.fnOf x x (defArgs st) (defBody st) (defScope st) .none kV doc pm an cdv ct) ⟨[a0], []⟩ = pure (([p0] : List Str).zip [a0])) : ∀ (kV doc pm : Value) (an : Option Addr) (cdv ct : Value) (us : List Value), us.length = ([p0] : List Str).length -> bindArgs (PySem.W.fnOf x x (defArgs st) (defBody st) (defScope st) .none kV doc pm an cdv ct) ⟨us, []⟩ = pure (([p0] : List Str).zip us) :=
 fun kV doc pm an cdv ct us hl => match us, hl with | [a0], _ => h kV doc pm an cdv ct a0
theorem bd2 {x : Str} {st : Stmt} {p0 p1 : Str} (h : ∀ (kV doc pm : Value) (an : Option Addr) (cdv ct a0 a1 : Value), bindArgs (PySem.W.fnOf x x (defArgs st) (defBody st) (defScope st) .none kV doc pm an cdv ct) ⟨[a0, a1], []⟩ = pure (([p0, p1] : List Str).zip [a0, a1])) : ∀ (kV doc pm : Value) (an : Option Addr) (cdv ct : Value) (us : List Value), us.length = ([p0, p1] : List Str).length -> bindArgs (PySem.W.fnOf x x (defArgs st) (defBody st) (defScope st) .none kV doc pm an cdv ct) ⟨us, []⟩ = pure (([p0, p1] : List Str).zip us) :=
 fun kV doc pm an cdv ct us hl => match us, hl with | [a0, a1], _ => h kV doc pm an cdv ct a0 a1
theorem bd3 {x : Str} {st : Stmt} {p0 p1 p2 : Str} (h : ∀ (kV doc pm : Value) (an : Option Addr) (cdv ct a0 a1 a2 : Value), bindArgs (PySem.W.fnOf x x (defArgs st) (defBody st) (defScope st) .none kV doc pm an cdv ct) ⟨[a0, a1, a2], []⟩ = pure (([p0, p1, p2] : List Str).zip [a0, a1, a2])) : ∀ (kV doc pm : Value) (an : Option Addr) (cdv ct : Value) (us : List Value), us.length = ([p0, p1, p2] : List Str).length -> bindArgs (PySem.W.fnOf x x (defArgs st) (defBody st) (defScope st) .none kV doc pm an cdv ct) ⟨us, []⟩ = pure (([p0, p1, p2] : List Str).zip us) :=
 fun kV doc pm an cdv ct us hl => match us, hl with | [a0, a1, a2], _ => h kV doc pm an cdv ct a0 a1 a2
theorem bd4 {x : Str} {st : Stmt} {p0 p1 p2 p3 : Str} (h : ∀ (kV doc pm : Value) (an : Option Addr) (cdv ct a0 a1 a2 a3 : Value), bindArgs (PySem.W.fnOf x x (defArgs st) (defBody st) (defScope st) .none kV doc pm an cdv ct) ⟨[a0, a1, a2, a3], []⟩ = pure (([p0, p1, p2, p3] : List Str).zip [a0, a1, a2, a3])) : ∀ (kV doc pm : Value) (an : Option Addr) (cdv ct : Value) (us : List Value), us.length = ([p0, p1, p2, p3] : List Str).length -> bindArgs (PySem.W.fnOf x x (defArgs st) (defBody st) (defScope st) .none kV doc pm an cdv ct) ⟨us, []⟩ = pure (([p0, p1, p2, p3] : List Str).zip us) :=
 fun kV doc pm an cdv ct us hl => match us, hl with | [a0, a1, a2, a3], _ => h kV doc pm an cdv ct a0 a1 a2 a3
theorem has_mk {K : PySem.W.Frag} {h : Heap} {mg : Str -> Option Value} (X : K.In h) (G : h.Ns mainGlobals mg) {x : Str} {st : Stmt} {ps : List Str} {f : Addr} {od an : Option Addr} {sl : Array (Option Value)} {oc kV dc pm cd ct : Value}
  (a : PySem.W.nsIn K mainGlobals x = some (some (.ref f))) (l : K.lookup f = some ⟨oc, od, .func (PySem.W.fnOf x x (defArgs st) (defBody st) (defScope st) .none kV dc pm an cd ct), sl⟩) (c : PySem.W.codeIn K cd x = true) (k : PySem.W.keepIn K (.ref f) = true)
  (b : ∀ (kV doc pm : Value) (an : Option Addr) (cdv ct : Value) (us : List Value), us.length = ps.length -> bindArgs (PySem.W.fnOf x x (defArgs st) (defBody st) (defScope st) .none kV doc pm an cdv ct) ⟨us, []⟩ = pure (ps.zip us)) : Has K mg x st ps :=
 ⟨f, _, fun_mk (st := st) l c k, PySem.W.mg_of X G a, (fun_mk (st := st) l c k).binds b⟩
theorem con_mk {K : PySem.W.Frag} {h : Heap} {mg : Str -> Option Value} (X : K.In h) (G : h.Ns mainGlobals mg) {x : Str} {vs : List V} {g : Addr} {od : Option Addr} {its : Array Value} {n : Nat} {sl : Array (Option Value)}
  (a : PySem.W.nsIn K mainGlobals x = some (some (.ref g))) (l : K.lookup g = some ⟨.type "tuple", od, .seq its n, sl⟩) (hz : its.size <= 1000) (hv : Vals vs its.toList) : ConT K mg x vs :=
 ⟨g, PySem.W.mg_of X G a, fun H => .inr ⟨_, its, n, l, rfl, rfl, Nat.le_of_lt (small1000 hz), hv⟩⟩
theorem tab_mk {K : PySem.W.Frag} {d : Addr} {T : List (Str × Str)} {es : Array DictEntry} {n : Nat} {sl : Array (Option Value)} (l : K.lookup d = some ⟨.type "dict", none, .dict es n, sl⟩) (hs : sl.isEmpty = true) (hd : (d == sysModules) = false) (hr : PyProof.Rows.KTD.Rows (fun y v => PySem.W.nsIn K mainGlobals y = some (some v)) es.toList T)
  (r : ∀ k y, PyProof.Rows.KTD.datumAt k T = some y -> ∃ f : Addr, PySem.W.nsIn K mainGlobals y = some (some (.ref f))) : TabF K d T :=
 ⟨fun h0 hk => ⟨hd, _, es, n, hk _ _ l, ⟨rfl, rfl, by simpa using hs⟩, rfl, hr⟩, r⟩
theorem all_mk {l : PySem.W.OpenLaw} {w : World} {K : PySem.W.Frag} {h : Heap} {mg : Str -> Option Value} {fa f0 f1 f2 f3 f4 f5 f6 f7 f8 f9 f10 f11 f12 f13 f14 f15 f16 f17 f18 f19 f20 f21 f22 f23 f24 f25 f26 g0 : Addr} {od0 an0 od1 an1 od2 an2 od3 an3 od4 an4 od5 an5 od6 an6 od7 an7 od8 an8 od9 an9 od10 an10 od11 an11 od12 an12 od13 an13 od14 an14 od15 an15 od16 an16 od17 an17 od18 an18 od19 an19 od20 an20 od21 an21 od22 an22 od23 an23 od24 an24 od25 an25 od26 an26 gd0 : Option Addr} {sl0 sl1 sl2 sl3 sl4 sl5 sl6 sl7 sl8 sl9 sl10 sl11 sl12 sl13 sl14 sl15 sl16 sl17 sl18 sl19 sl20 sl21 sl22 sl23 sl24 sl25 sl26 gs0 : Array (Option Value)} {oc0 kV0 dc0 pm0 cd0 ct0 oc1 kV1 dc1 pm1 cd1 ct1 oc2 kV2 dc2 pm2 cd2 ct2 oc3 kV3 dc3 pm3 cd3 ct3 oc4 kV4 dc4 pm4 cd4 ct4 oc5 kV5 dc5 pm5 cd5 ct5 oc6 kV6 dc6 pm6 cd6 ct6 oc7 kV7 dc7 pm7 cd7 ct7 oc8 kV8 dc8 pm8 cd8 ct8 oc9 kV9 dc9 pm9 cd9 ct9 oc10 kV10 dc10 pm10 cd10 ct10 oc11 kV11 dc11 pm11 cd11 ct11 oc12 kV12 dc12 pm12 cd12 ct12 oc13 kV13 dc13 pm13 cd13 ct13 oc14 kV14 dc14 pm14 cd14 ct14 oc15 kV15 dc15 pm15 cd15 ct15 oc16 kV16 dc16 pm16 cd16 ct16 oc17 kV17 dc17 pm17 cd17 ct17 oc18 kV18 dc18 pm18 cd18 ct18 oc19 kV19 dc19 pm19 cd19 ct19 oc20 kV20 dc20 pm20 cd20 ct20 oc21 kV21 dc21 pm21 cd21 ct21 oc22 kV22 dc22 pm22 cd22 ct22 oc23 kV23 dc23 pm23 cd23 ct23 oc24 kV24 dc24 pm24 cd24 ct24 oc25 kV25 dc25 pm25 cd25 ct25 oc26 kV26 dc26 pm26 cd26 ct26 : Value} {gn0 : Nat} {gi0 : Array Value} {m0 : Addr} {me0 : Array DictEntry} {mn0 : Nat} {ms0 : Array (Option Value)} (X : K.In h) (G : h.Ns mainGlobals mg) (hfa : mg "law" = some (.ref fa))
  (a0 : PySem.W.nsIn K mainGlobals "ports_of" = some (some (.ref f0))) (l0 : K.lookup f0 = some ⟨oc0, od0, .func (PySem.W.fnOf "ports_of" "ports_of" (defArgs s_ports_of) (defBody s_ports_of) (defScope s_ports_of) .none kV0 dc0 pm0 an0 cd0 ct0), sl0⟩) (c0 : PySem.W.codeIn K cd0 "ports_of" = true) (k0 : PySem.W.keepIn K (.ref f0) = true)
  (a1 : PySem.W.nsIn K mainGlobals "both_lets" = some (some (.ref f1))) (l1 : K.lookup f1 = some ⟨oc1, od1, .func (PySem.W.fnOf "both_lets" "both_lets" (defArgs s_both_lets) (defBody s_both_lets) (defScope s_both_lets) .none kV1 dc1 pm1 an1 cd1 ct1), sl1⟩) (c1 : PySem.W.codeIn K cd1 "both_lets" = true) (k1 : PySem.W.keepIn K (.ref f1) = true)
  (a2 : PySem.W.nsIn K mainGlobals "only_lets" = some (some (.ref f2))) (l2 : K.lookup f2 = some ⟨oc2, od2, .func (PySem.W.fnOf "only_lets" "only_lets" (defArgs s_only_lets) (defBody s_only_lets) (defScope s_only_lets) .none kV2 dc2 pm2 an2 cd2 ct2), sl2⟩) (c2 : PySem.W.codeIn K cd2 "only_lets" = true) (k2 : PySem.W.keepIn K (.ref f2) = true)
  (a3 : PySem.W.nsIn K mainGlobals "loose_lets" = some (some (.ref f3))) (l3 : K.lookup f3 = some ⟨oc3, od3, .func (PySem.W.fnOf "loose_lets" "loose_lets" (defArgs s_loose_lets) (defBody s_loose_lets) (defScope s_loose_lets) .none kV3 dc3 pm3 an3 cd3 ct3), sl3⟩) (c3 : PySem.W.codeIn K cd3 "loose_lets" = true) (k3 : PySem.W.keepIn K (.ref f3) = true)
  (a4 : PySem.W.nsIn K mainGlobals "drain_lets" = some (some (.ref f4))) (l4 : K.lookup f4 = some ⟨oc4, od4, .func (PySem.W.fnOf "drain_lets" "drain_lets" (defArgs s_drain_lets) (defBody s_drain_lets) (defScope s_drain_lets) .none kV4 dc4 pm4 an4 cd4 ct4), sl4⟩) (c4 : PySem.W.codeIn K cd4 "drain_lets" = true) (k4 : PySem.W.keepIn K (.ref f4) = true)
  (a5 : PySem.W.nsIn K mainGlobals "either_lets" = some (some (.ref f5))) (l5 : K.lookup f5 = some ⟨oc5, od5, .func (PySem.W.fnOf "either_lets" "either_lets" (defArgs s_either_lets) (defBody s_either_lets) (defScope s_either_lets) .none kV5 dc5 pm5 an5 cd5 ct5), sl5⟩) (c5 : PySem.W.codeIn K cd5 "either_lets" = true) (k5 : PySem.W.keepIn K (.ref f5) = true)
  (a6 : PySem.W.nsIn K mainGlobals "place_lets" = some (some (.ref f6))) (l6 : K.lookup f6 = some ⟨oc6, od6, .func (PySem.W.fnOf "place_lets" "place_lets" (defArgs s_place_lets) (defBody s_place_lets) (defScope s_place_lets) .none kV6 dc6 pm6 an6 cd6 ct6), sl6⟩) (c6 : PySem.W.codeIn K cd6 "place_lets" = true) (k6 : PySem.W.keepIn K (.ref f6) = true)
  (a7 : PySem.W.nsIn K mainGlobals "last_lets" = some (some (.ref f7))) (l7 : K.lookup f7 = some ⟨oc7, od7, .func (PySem.W.fnOf "last_lets" "last_lets" (defArgs s_last_lets) (defBody s_last_lets) (defScope s_last_lets) .none kV7 dc7 pm7 an7 cd7 ct7), sl7⟩) (c7 : PySem.W.codeIn K cd7 "last_lets" = true) (k7 : PySem.W.keepIn K (.ref f7) = true)
  (a8 : PySem.W.nsIn K mainGlobals "copy_lets" = some (some (.ref f8))) (l8 : K.lookup f8 = some ⟨oc8, od8, .func (PySem.W.fnOf "copy_lets" "copy_lets" (defArgs s_copy_lets) (defBody s_copy_lets) (defScope s_copy_lets) .none kV8 dc8 pm8 an8 cd8 ct8), sl8⟩) (c8 : PySem.W.codeIn K cd8 "copy_lets" = true) (k8 : PySem.W.keepIn K (.ref f8) = true)
  (a9 : PySem.W.nsIn K mainGlobals "merge_lets" = some (some (.ref f9))) (l9 : K.lookup f9 = some ⟨oc9, od9, .func (PySem.W.fnOf "merge_lets" "merge_lets" (defArgs s_merge_lets) (defBody s_merge_lets) (defScope s_merge_lets) .none kV9 dc9 pm9 an9 cd9 ct9), sl9⟩) (c9 : PySem.W.codeIn K cd9 "merge_lets" = true) (k9 : PySem.W.keepIn K (.ref f9) = true)
  (a10 : PySem.W.nsIn K mainGlobals "lets" = some (some (.ref f10))) (l10 : K.lookup f10 = some ⟨oc10, od10, .func (PySem.W.fnOf "lets" "lets" (defArgs s_lets) (defBody s_lets) (defScope s_lets) .none kV10 dc10 pm10 an10 cd10 ct10), sl10⟩) (c10 : PySem.W.codeIn K cd10 "lets" = true) (k10 : PySem.W.keepIn K (.ref f10) = true)
  (a11 : PySem.W.nsIn K mainGlobals "held_behind" = some (some (.ref f11))) (l11 : K.lookup f11 = some ⟨oc11, od11, .func (PySem.W.fnOf "held_behind" "held_behind" (defArgs s_held_behind) (defBody s_held_behind) (defScope s_held_behind) .none kV11 dc11 pm11 an11 cd11 ct11), sl11⟩) (c11 : PySem.W.codeIn K cd11 "held_behind" = true) (k11 : PySem.W.keepIn K (.ref f11) = true)
  (a12 : PySem.W.nsIn K mainGlobals "held_then" = some (some (.ref f12))) (l12 : K.lookup f12 = some ⟨oc12, od12, .func (PySem.W.fnOf "held_then" "held_then" (defArgs s_held_then) (defBody s_held_then) (defScope s_held_then) .none kV12 dc12 pm12 an12 cd12 ct12), sl12⟩) (c12 : PySem.W.codeIn K cd12 "held_then" = true) (k12 : PySem.W.keepIn K (.ref f12) = true)
  (a13 : PySem.W.nsIn K mainGlobals "passing_at" = some (some (.ref f13))) (l13 : K.lookup f13 = some ⟨oc13, od13, .func (PySem.W.fnOf "passing_at" "passing_at" (defArgs s_passing_at) (defBody s_passing_at) (defScope s_passing_at) .none kV13 dc13 pm13 an13 cd13 ct13), sl13⟩) (c13 : PySem.W.codeIn K cd13 "passing_at" = true) (k13 : PySem.W.keepIn K (.ref f13) = true)
  (a14 : PySem.W.nsIn K mainGlobals "_law_feed" = some (some (.ref f14))) (l14 : K.lookup f14 = some ⟨oc14, od14, .func (PySem.W.fnOf "_law_feed" "_law_feed" (defArgs s__law_feed) (defBody s__law_feed) (defScope s__law_feed) .none kV14 dc14 pm14 an14 cd14 ct14), sl14⟩) (c14 : PySem.W.codeIn K cd14 "_law_feed" = true) (k14 : PySem.W.keepIn K (.ref f14) = true)
  (a15 : PySem.W.nsIn K mainGlobals "_law_draw" = some (some (.ref f15))) (l15 : K.lookup f15 = some ⟨oc15, od15, .func (PySem.W.fnOf "_law_draw" "_law_draw" (defArgs s__law_draw) (defBody s__law_draw) (defScope s__law_draw) .none kV15 dc15 pm15 an15 cd15 ct15), sl15⟩) (c15 : PySem.W.codeIn K cd15 "_law_draw" = true) (k15 : PySem.W.keepIn K (.ref f15) = true)
  (a16 : PySem.W.nsIn K mainGlobals "_law_shuffled" = some (some (.ref f16))) (l16 : K.lookup f16 = some ⟨oc16, od16, .func (PySem.W.fnOf "_law_shuffled" "_law_shuffled" (defArgs s__law_shuffled) (defBody s__law_shuffled) (defScope s__law_shuffled) .none kV16 dc16 pm16 an16 cd16 ct16), sl16⟩) (c16 : PySem.W.codeIn K cd16 "_law_shuffled" = true) (k16 : PySem.W.keepIn K (.ref f16) = true)
  (a17 : PySem.W.nsIn K mainGlobals "_law_ports" = some (some (.ref f17))) (l17 : K.lookup f17 = some ⟨oc17, od17, .func (PySem.W.fnOf "_law_ports" "_law_ports" (defArgs s__law_ports) (defBody s__law_ports) (defScope s__law_ports) .none kV17 dc17 pm17 an17 cd17 ct17), sl17⟩) (c17 : PySem.W.codeIn K cd17 "_law_ports" = true) (k17 : PySem.W.keepIn K (.ref f17) = true)
  (a18 : PySem.W.nsIn K mainGlobals "_law_part" = some (some (.ref f18))) (l18 : K.lookup f18 = some ⟨oc18, od18, .func (PySem.W.fnOf "_law_part" "_law_part" (defArgs s__law_part) (defBody s__law_part) (defScope s__law_part) .none kV18 dc18 pm18 an18 cd18 ct18), sl18⟩) (c18 : PySem.W.codeIn K cd18 "_law_part" = true) (k18 : PySem.W.keepIn K (.ref f18) = true)
  (a19 : PySem.W.nsIn K mainGlobals "_law_part_ports" = some (some (.ref f19))) (l19 : K.lookup f19 = some ⟨oc19, od19, .func (PySem.W.fnOf "_law_part_ports" "_law_part_ports" (defArgs s__law_part_ports) (defBody s__law_part_ports) (defScope s__law_part_ports) .none kV19 dc19 pm19 an19 cd19 ct19), sl19⟩) (c19 : PySem.W.codeIn K cd19 "_law_part_ports" = true) (k19 : PySem.W.keepIn K (.ref f19) = true)
  (a20 : PySem.W.nsIn K mainGlobals "_law_alone" = some (some (.ref f20))) (l20 : K.lookup f20 = some ⟨oc20, od20, .func (PySem.W.fnOf "_law_alone" "_law_alone" (defArgs s__law_alone) (defBody s__law_alone) (defScope s__law_alone) .none kV20 dc20 pm20 an20 cd20 ct20), sl20⟩) (c20 : PySem.W.codeIn K cd20 "_law_alone" = true) (k20 : PySem.W.keepIn K (.ref f20) = true)
  (a21 : PySem.W.nsIn K mainGlobals "_law_allowed" = some (some (.ref f21))) (l21 : K.lookup f21 = some ⟨oc21, od21, .func (PySem.W.fnOf "_law_allowed" "_law_allowed" (defArgs s__law_allowed) (defBody s__law_allowed) (defScope s__law_allowed) .none kV21 dc21 pm21 an21 cd21 ct21), sl21⟩) (c21 : PySem.W.codeIn K cd21 "_law_allowed" = true) (k21 : PySem.W.keepIn K (.ref f21) = true)
  (a22 : PySem.W.nsIn K mainGlobals "_law_behind" = some (some (.ref f22))) (l22 : K.lookup f22 = some ⟨oc22, od22, .func (PySem.W.fnOf "_law_behind" "_law_behind" (defArgs s__law_behind) (defBody s__law_behind) (defScope s__law_behind) .none kV22 dc22 pm22 an22 cd22 ct22), sl22⟩) (c22 : PySem.W.codeIn K cd22 "_law_behind" = true) (k22 : PySem.W.keepIn K (.ref f22) = true)
  (a23 : PySem.W.nsIn K mainGlobals "_law_moment" = some (some (.ref f23))) (l23 : K.lookup f23 = some ⟨oc23, od23, .func (PySem.W.fnOf "_law_moment" "_law_moment" (defArgs s__law_moment) (defBody s__law_moment) (defScope s__law_moment) .none kV23 dc23 pm23 an23 cd23 ct23), sl23⟩) (c23 : PySem.W.codeIn K cd23 "_law_moment" = true) (k23 : PySem.W.keepIn K (.ref f23) = true)
  (a24 : PySem.W.nsIn K mainGlobals "_law_rows" = some (some (.ref f24))) (l24 : K.lookup f24 = some ⟨oc24, od24, .func (PySem.W.fnOf "_law_rows" "_law_rows" (defArgs s__law_rows) (defBody s__law_rows) (defScope s__law_rows) .none kV24 dc24 pm24 an24 cd24 ct24), sl24⟩) (c24 : PySem.W.codeIn K cd24 "_law_rows" = true) (k24 : PySem.W.keepIn K (.ref f24) = true)
  (a25 : PySem.W.nsIn K mainGlobals "_law_right" = some (some (.ref f25))) (l25 : K.lookup f25 = some ⟨oc25, od25, .func (PySem.W.fnOf "_law_right" "_law_right" (defArgs s__law_right) (defBody s__law_right) (defScope s__law_right) .none kV25 dc25 pm25 an25 cd25 ct25), sl25⟩) (c25 : PySem.W.codeIn K cd25 "_law_right" = true) (k25 : PySem.W.keepIn K (.ref f25) = true)
  (a26 : PySem.W.nsIn K mainGlobals "law" = some (some (.ref f26))) (l26 : K.lookup f26 = some ⟨oc26, od26, .func (PySem.W.fnOf "law" "law" (defArgs s_law) (defBody s_law) (defScope s_law) .none kV26 dc26 pm26 an26 cd26 ct26), sl26⟩) (c26 : PySem.W.codeIn K cd26 "law" = true) (k26 : PySem.W.keepIn K (.ref f26) = true)
  (p0 : PySem.W.nsIn K mainGlobals "HOLDING" = some (some (.ref g0))) (q0 : K.lookup g0 = some ⟨.type "tuple", gd0, .seq gi0 gn0, gs0⟩) (r0 : gi0.size <= 1000) (v0 : Vals [.str "place", .str "last"] gi0.toList)
  (u0 : PySem.W.nsIn K mainGlobals "MANNERS" = some (some (.ref m0))) (w0 : K.lookup m0 = some ⟨.type "dict", none, .dict me0 mn0, ms0⟩) (x0 : ms0.isEmpty = true) (y0 : (m0 == sysModules) = false) (t0 : PyProof.Rows.KTD.Rows (fun y v => PySem.W.nsIn K mainGlobals y = some (some v)) me0.toList [("both", "both_lets"), ("only", "only_lets"), ("loose", "loose_lets"), ("drain", "drain_lets"), ("either", "either_lets"), ("place", "place_lets"), ("last", "last_lets"), ("copy", "copy_lets"), ("merge", "merge_lets")])
  (z0 : PySem.W.nsIn K mainGlobals "len" = some none)
  (z1 : PySem.W.nsIn K mainGlobals "min" = some none)
  (z2 : PySem.W.nsIn K mainGlobals "repr" = some none)
  (z3 : PySem.W.nsIn K mainGlobals "sorted" = some none)
  (z4 : PySem.W.nsIn K mainGlobals "list" = some none)
  (z5 : PySem.W.nsIn K mainGlobals "tuple" = some none)
  (z6 : PySem.W.nsIn K mainGlobals "dict" = some none)
  (z7 : PySem.W.nsIn K mainGlobals "range" = some none)
  (z8 : PySem.W.nsIn K mainGlobals "int" = some none)
  (z9 : PySem.W.nsIn K mainGlobals "all" = some none)
  (z10 : PySem.W.nsIn K mainGlobals "zip" = some none) :
  ∃ fd : FuncData, (∀ (s : Shared) (v : Value), BindsTo s fd ⟨[v], []⟩ [("_law_script", v)]) /\ ∀ base : Heap, K.In base -> base.Ns mainGlobals mg -> FnOk l.prog w K mg base CX0 6 fa fd ["_law_script"] (spLaw K) := by
 have e := hfa.symm.trans (PySem.W.mg_of X G a26)
 cases e
 have T : Txt0 K mg := ⟨has_mk X G a0 l0 c0 k0 (bd1 fun _ _ _ _ _ _ _ => rfl),
  has_mk X G a1 l1 c1 k1 (bd3 fun _ _ _ _ _ _ _ _ _ => rfl),
  has_mk X G a2 l2 c2 k2 (bd3 fun _ _ _ _ _ _ _ _ _ => rfl),
  has_mk X G a3 l3 c3 k3 (bd3 fun _ _ _ _ _ _ _ _ _ => rfl),
  has_mk X G a4 l4 c4 k4 (bd3 fun _ _ _ _ _ _ _ _ _ => rfl),
  has_mk X G a5 l5 c5 k5 (bd3 fun _ _ _ _ _ _ _ _ _ => rfl),
  has_mk X G a6 l6 c6 k6 (bd3 fun _ _ _ _ _ _ _ _ _ => rfl),
  has_mk X G a7 l7 c7 k7 (bd3 fun _ _ _ _ _ _ _ _ _ => rfl),
  has_mk X G a8 l8 c8 k8 (bd3 fun _ _ _ _ _ _ _ _ _ => rfl),
  has_mk X G a9 l9 c9 k9 (bd3 fun _ _ _ _ _ _ _ _ _ => rfl),
  has_mk X G a10 l10 c10 k10 (bd3 fun _ _ _ _ _ _ _ _ _ => rfl),
  has_mk X G a11 l11 c11 k11 (bd3 fun _ _ _ _ _ _ _ _ _ => rfl),
  has_mk X G a12 l12 c12 k12 (bd4 fun _ _ _ _ _ _ _ _ _ _ => rfl),
  has_mk X G a13 l13 c13 k13 (bd2 fun _ _ _ _ _ _ _ _ => rfl),
  has_mk X G a14 l14 c14 k14 (bd1 fun _ _ _ _ _ _ _ => rfl),
  has_mk X G a15 l15 c15 k15 (bd2 fun _ _ _ _ _ _ _ _ => rfl),
  has_mk X G a16 l16 c16 k16 (bd2 fun _ _ _ _ _ _ _ _ => rfl),
  has_mk X G a17 l17 c17 k17 (bd2 fun _ _ _ _ _ _ _ _ => rfl),
  has_mk X G a18 l18 c18 k18 (bd3 fun _ _ _ _ _ _ _ _ _ => rfl),
  has_mk X G a19 l19 c19 k19 (bd1 fun _ _ _ _ _ _ _ => rfl),
  has_mk X G a20 l20 c20 k20 (bd3 fun _ _ _ _ _ _ _ _ _ => rfl),
  has_mk X G a21 l21 c21 k21 (bd3 fun _ _ _ _ _ _ _ _ _ => rfl),
  has_mk X G a22 l22 c22 k22 (bd3 fun _ _ _ _ _ _ _ _ _ => rfl),
  has_mk X G a23 l23 c23 k23 (bd3 fun _ _ _ _ _ _ _ _ _ => rfl),
  has_mk X G a24 l24 c24 k24 (bd4 fun _ _ _ _ _ _ _ _ _ _ => rfl),
  has_mk X G a25 l25 c25 k25 (bd4 fun _ _ _ _ _ _ _ _ _ _ => rfl),
  has_mk X G a26 l26 c26 k26 (bd1 fun _ _ _ _ _ _ _ => rfl),
  con_mk X G p0 q0 r0 v0,
  ⟨m0, PySem.W.mg_of X G u0, tab_mk w0 x0 y0 t0 (fun k y hy => by
   simp only [PyProof.Rows.KTD.datumAt] at hy
   split at hy
   ·cases hy; exact ⟨_, a1⟩
   split at hy
   ·cases hy; exact ⟨_, a2⟩
   split at hy
   ·cases hy; exact ⟨_, a3⟩
   split at hy
   ·cases hy; exact ⟨_, a4⟩
   split at hy
   ·cases hy; exact ⟨_, a5⟩
   split at hy
   ·cases hy; exact ⟨_, a6⟩
   split at hy
   ·cases hy; exact ⟨_, a7⟩
   split at hy
   ·cases hy; exact ⟨_, a8⟩
   split at hy
   ·cases hy; exact ⟨_, a9⟩
   cases hy)⟩,
  (fun f e => by rw [a1] at e; cases e; exact PySem.W.mg_of X G a1),
  (fun f e => by rw [a2] at e; cases e; exact PySem.W.mg_of X G a2),
  (fun f e => by rw [a3] at e; cases e; exact PySem.W.mg_of X G a3),
  (fun f e => by rw [a4] at e; cases e; exact PySem.W.mg_of X G a4),
  (fun f e => by rw [a5] at e; cases e; exact PySem.W.mg_of X G a5),
  (fun f e => by rw [a6] at e; cases e; exact PySem.W.mg_of X G a6),
  (fun f e => by rw [a7] at e; cases e; exact PySem.W.mg_of X G a7),
  (fun f e => by rw [a8] at e; cases e; exact PySem.W.mg_of X G a8),
  (fun f e => by rw [a9] at e; cases e; exact PySem.W.mg_of X G a9),
  PySem.W.mg_none_of X G z0,
  PySem.W.mg_none_of X G z1,
  PySem.W.mg_none_of X G z2,
  PySem.W.mg_none_of X G z3,
  PySem.W.mg_none_of X G z4,
  PySem.W.mg_none_of X G z5,
  PySem.W.mg_none_of X G z6,
  PySem.W.mg_none_of X G z7,
  PySem.W.mg_none_of X G z8,
  PySem.W.mg_none_of X G z9,
  PySem.W.mg_none_of X G z10⟩
 refine ⟨PySem.W.fnOf "law" "law" (defArgs s_law) (defBody s_law) (defScope s_law) .none kV26 dc26 pm26 an26 cd26 ct26, fun s v => .of_eq rfl, fun base _ _ => ?_⟩
 exact law_of (fnlaw (fun_mk (st := s_law) l26 c26 k26) T) fun ns _ => law_true ns
theorem walk {l : PySem.W.OpenLaw} {q : Program} {loose : List Str} {XP : (Str -> Option Value) -> Heap -> Prop} {YP : World -> Heap -> Prop} {d : DefRec} {K : Params -> PySem.W.Frag} (hn : l.most = some 63) (hdf : d.params.defaults = [])
  (hY : ∀ (w : World) (h : Heap), YP w h -> (K w.params).In h)
  (F : ∀ (w : World) (mg : Str -> Option Value) (fa : Addr) (h : Heap), (K w.params).In h -> h.Ns mainGlobals mg -> mg d.name = some (.ref fa) ->
   ∃ fd : FuncData, (∀ (s : Shared) (u : Value), BindsTo s fd ⟨[u], []⟩ [("_law_script", u)]) /\ ∀ base : Heap, (K w.params).In base -> base.Ns mainGlobals mg -> FnOk l.prog w (K w.params) mg base CX0 6 fa fd ["_law_script"] (spLaw (K w.params))) :
  PySem.W.WalkO q loose XP YP l.row.toRowW d [] (fun f vs => PySem.call f vs) :=
 L2.walk_of (n := 63) (k := 6) (x := "_law_script") (CX := fun _ => CX0) (sp := fun w => spLaw (K w.params)) hn (by decide) hdf ⟨rfl, by decide, by decide, rfl⟩ hY F (fun _ _ a ns hl _ hS => ⟨a, ns, rfl, hS, hl, fun _ => rfl⟩) fun _ _ _ _ _ z => z
end Ln
open PySem PySem.W PyProof.Rows
set_option maxRecDepth 100000 in
set_option maxHeartbeats 0 in
theorem PySem.Challenge.cw_mannerports_k07_what_parts_let_holds : PySem.Challenge.rw_mannerports_k07_what_parts_let.Holds := by
 w_on; o_law; k_head; (case hw => w_witness2)
 k_fill
 refine Ln.walk (l := PySem.Challenge.rw_mannerports_k07_what_parts_let) rfl rfl (fun w h Y => PySem.W.kIn_of Y) ?F
 case F =>
  intro w mg fa h KX G hmg
  refine' Ln.all_mk KX G hmg ?a0 ?l0 ?c0 ?k0 ?a1 ?l1 ?c1 ?k1 ?a2 ?l2 ?c2 ?k2 ?a3 ?l3 ?c3 ?k3 ?a4 ?l4 ?c4 ?k4 ?a5 ?l5 ?c5 ?k5 ?a6 ?l6 ?c6 ?k6 ?a7 ?l7 ?c7 ?k7 ?a8 ?l8 ?c8 ?k8 ?a9 ?l9 ?c9 ?k9 ?a10 ?l10 ?c10 ?k10 ?a11 ?l11 ?c11 ?k11 ?a12 ?l12 ?c12 ?k12 ?a13 ?l13 ?c13 ?k13 ?a14 ?l14 ?c14 ?k14 ?a15 ?l15 ?c15 ?k15 ?a16 ?l16 ?c16 ?k16 ?a17 ?l17 ?c17 ?k17 ?a18 ?l18 ?c18 ?k18 ?a19 ?l19 ?c19 ?k19 ?a20 ?l20 ?c20 ?k20 ?a21 ?l21 ?c21 ?k21 ?a22 ?l22 ?c22 ?k22 ?a23 ?l23 ?c23 ?k23 ?a24 ?l24 ?c24 ?k24 ?a25 ?l25 ?c25 ?k25 ?a26 ?l26 ?c26 ?k26 ?p0 ?q0 ?r0 ?v0 ?u0 ?w0 ?x0 ?y0 ?t0 ?z0 ?z1 ?z2 ?z3 ?z4 ?z5 ?z6 ?z7 ?z8 ?z9 ?z10
  (case a0 => k_is)
  (case l0 => k_is)
  (case c0 => k_is)
  (case k0 => k_is)
  (case a1 => k_is)
  (case l1 => k_is)
  (case c1 => k_is)
  (case k1 => k_is)
  (case a2 => k_is)
  (case l2 => k_is)
  (case c2 => k_is)
  (case k2 => k_is)
  (case a3 => k_is)
  (case l3 => k_is)
  (case c3 => k_is)
  (case k3 => k_is)
  (case a4 => k_is)
  (case l4 => k_is)
  (case c4 => k_is)
  (case k4 => k_is)
  (case a5 => k_is)
  (case l5 => k_is)
  (case c5 => k_is)
  (case k5 => k_is)
  (case a6 => k_is)
  (case l6 => k_is)
  (case c6 => k_is)
  (case k6 => k_is)
  (case a7 => k_is)
  (case l7 => k_is)
  (case c7 => k_is)
  (case k7 => k_is)
  (case a8 => k_is)
  (case l8 => k_is)
  (case c8 => k_is)
  (case k8 => k_is)
  (case a9 => k_is)
  (case l9 => k_is)
  (case c9 => k_is)
  (case k9 => k_is)
  (case a10 => k_is)
  (case l10 => k_is)
  (case c10 => k_is)
  (case k10 => k_is)
  (case a11 => k_is)
  (case l11 => k_is)
  (case c11 => k_is)
  (case k11 => k_is)
  (case a12 => k_is)
  (case l12 => k_is)
  (case c12 => k_is)
  (case k12 => k_is)
  (case a13 => k_is)
  (case l13 => k_is)
  (case c13 => k_is)
  (case k13 => k_is)
  (case a14 => k_is)
  (case l14 => k_is)
  (case c14 => k_is)
  (case k14 => k_is)
  (case a15 => k_is)
  (case l15 => k_is)
  (case c15 => k_is)
  (case k15 => k_is)
  (case a16 => k_is)
  (case l16 => k_is)
  (case c16 => k_is)
  (case k16 => k_is)
  (case a17 => k_is)
  (case l17 => k_is)
  (case c17 => k_is)
  (case k17 => k_is)
  (case a18 => k_is)
  (case l18 => k_is)
  (case c18 => k_is)
  (case k18 => k_is)
  (case a19 => k_is)
  (case l19 => k_is)
  (case c19 => k_is)
  (case k19 => k_is)
  (case a20 => k_is)
  (case l20 => k_is)
  (case c20 => k_is)
  (case k20 => k_is)
  (case a21 => k_is)
  (case l21 => k_is)
  (case c21 => k_is)
  (case k21 => k_is)
  (case a22 => k_is)
  (case l22 => k_is)
  (case c22 => k_is)
  (case k22 => k_is)
  (case a23 => k_is)
  (case l23 => k_is)
  (case c23 => k_is)
  (case k23 => k_is)
  (case a24 => k_is)
  (case l24 => k_is)
  (case c24 => k_is)
  (case k24 => k_is)
  (case a25 => k_is)
  (case l25 => k_is)
  (case c25 => k_is)
  (case k25 => k_is)
  (case a26 => k_is)
  (case l26 => k_is)
  (case c26 => k_is)
  (case k26 => k_is)
  (case p0 => k_is)
  (case q0 => k_is)
  (case r0 => exact (by decide))
  (case v0 => exact .cons ⟨_, rfl⟩ (.cons ⟨_, rfl⟩ (.nil)))
  (case u0 => k_is)
  (case w0 => k_is)
  (case x0 => exact (by decide))
  (case y0 => exact (by decide))
  (case t0 => exact .cons rfl (by k_is) (.cons rfl (by k_is) (.cons rfl (by k_is) (.cons rfl (by k_is) (.cons rfl (by k_is) (.cons rfl (by k_is) (.cons rfl (by k_is) (.cons rfl (by k_is) (.cons rfl (by k_is) (.nil))))))))))
  (case z0 => k_is)
  (case z1 => k_is)
  (case z2 => k_is)
  (case z3 => k_is)
  (case z4 => k_is)
  (case z5 => k_is)
  (case z6 => k_is)
  (case z7 => k_is)
  (case z8 => k_is)
  (case z9 => k_is)
  (case z10 => k_is)
