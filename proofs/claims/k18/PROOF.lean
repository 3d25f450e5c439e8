import PyProof.Rows.All
import Wide.All
import OpenK.AllK
import Wide.FinOn
import Lean
import PyProof.EqAt
import PyProof.EqKinds
import PyProof.TupleCall
import PyProof.NeKinds
import PyProof.Rows.SetFrom
import PyProof.WalksMore
import KE.KDictSum
import PyProof.AttrMissHeap
import PyProof.P3Eq
import PyProof.NeData
import PyProof.ConsumeWalk
import PyProof.ZipIter
import PyProof.Rows.TupAdd
import PyProof.Rows.IntBool
import PyProof.SliceStr2
import PyProof.StrBlockI
import KE.KTab
import KE.KSortAsk
import KE.KSortTup
import PyProof.TupleOfSeq
import PyProof.FString5
import PyProof.StrWalks
import PyProof.CallStr
import PyProof.Conv_int_bool
import PyProof.StrCalls
import PyProof.DictWalks
import PyProof.Rows.TupDisplay
import PyProof.DictTruth
import PyProof.ListMulAny
import PyProof.FactsAll.tuple_2
import PyProof.ListRange
import KE.KxMul
import PyProof.FactsAll.dict_1
import PyProof.FactsAll.subtypes_4
import PyProof.FactsAll.subtypes_3
import PyProof.FactsAll.tuple_0
import KE.KIsAll
import OpenK.KCls
import OpenK.KMore
import PyProof.ExcInit
import PyProof.ExcBaseAll.ValueError
import PyProof.ExcAttrAll.ValueError
import PyProof.InstStore
import PyProof.InstStoreFacts
import PySem.Challenge.RW_mannerports_k18_refusals_by_hand
import KE.KTabLook
set_option Elab.async false
set_option linter.all false
set_option bootstrap.genMatcherCode false
set_option genSizeOfSpec false
set_option maxRecDepth 100000
set_option maxHeartbeats 4000001
namespace PF
open PySem PySem.Spec PySem.SeqAt --
mutual
noncomputable def plD : PyData -> Bool
 | .none => true
 | .int _ => true
 | .str _ => true
 | .tuple xs => plDs xs
 | _ => false
noncomputable def plDs : List PyData -> Bool
 | [] => true
 | x :: xs => plD x && plDs xs
end
theorem plD_tup {xs : List PyData} : plD (.tuple xs) = plDs xs := by simp only [plD]
theorem plDs_cons {x : PyData} {xs : List PyData} : plDs (x :: xs) = (plD x && plDs xs) := by simp only [plDs]
theorem plDs_all : ∀ xs : List PyData, plDs xs = xs.all plD
 | [] => by simp only [plDs, List.all_nil]
 | x :: r => by rw [plDs_cons, List.all_cons, plDs_all r]
theorem evt {xs ys : List PyData} : PyData.eqv (.tuple xs) (.tuple ys) = PyData.eqvAll xs ys := by simp only [PyData.eqv]
theorem evs {x y : PyData} {xs ys : List PyData} : PyData.eqvAll (x :: xs) (y :: ys) = (PyData.eqv x y && PyData.eqvAll xs ys) := by simp only [PyData.eqvAll]
mutual
theorem eqv_pl : ∀ a b : PyData, plD a = true -> plD b = true -> (PyData.eqv a b = true ↔ a = b)
 | .none, b, _, hb => by cases b <;> simp [plD] at hb <;> simp [PyData.eqv]
 | .int i, b, _, hb => by cases b <;> simp [plD] at hb <;> simp [PyData.eqv]
 | .str i, b, _, hb => by cases b <;> simp [plD] at hb <;> simp [PyData.eqv]
 | .tuple xs, .tuple ys, ha, hb => by
  rw [evt, eqvs_pl xs ys (by rw [← plD_tup]; exact ha) (by rw [← plD_tup]; exact hb)]
  simp
 | .tuple xs, .none, _, _ => by simp [PyData.eqv]
 | .tuple xs, .int _, _, _ => by simp [PyData.eqv]
 | .tuple xs, .str _, _, _ => by simp [PyData.eqv]
 | .tuple xs, .bool _, _, hb => by simp [plD] at hb
 | .tuple xs, .list _, _, hb => by simp [plD] at hb
 | .tuple xs, .dict _, _, hb => by simp [plD] at hb
 | .bool _, _, ha, _ => by simp [plD] at ha
 | .list _, _, ha, _ => by simp [plD] at ha
 | .dict _, _, ha, _ => by simp [plD] at ha
theorem eqvs_pl : ∀ xs ys : List PyData, plDs xs = true -> plDs ys = true -> (PyData.eqvAll xs ys = true ↔ xs = ys)
 | [], [], _, _ => by simp [PyData.eqvAll]
 | [], _ :: _, _, _ => by simp [PyData.eqvAll]
 | _ :: _, [], _, _ => by simp [PyData.eqvAll]
 | x :: xs, y :: ys, ha, hb => by
  rw [plDs_cons, Bool.and_eq_true] at ha hb
  rw [evs, Bool.and_eq_true, eqv_pl x y ha.1 hb.1, eqvs_pl xs ys ha.2 hb.2, List.cons.injEq]
end
mutual
noncomputable def hashD (w : World) : PyData -> Int
 | .none => 0xFCA86420
 | .int i => hashInt i
 | .str x => hashStr w x
 | .tuple xs => reduceHash (Builtin.Tuple.tupleHashOf (hashDs w xs))
 | _ => 0
noncomputable def hashDs (w : World) : List PyData -> List Int
 | [] => []
 | x :: xs => hashD w x :: hashDs w xs
end
mutual
noncomputable def drawsD : PyData -> Nat
 | .tuple xs => drawsDs xs + 1
 | _ => 1
noncomputable def drawsDs : List PyData -> Nat
 | [] => 0
 | x :: xs => drawsD x + drawsDs xs
end
theorem hashDs_map (w : World) : ∀ xs : List PyData, hashDs w xs = xs.map (hashD w)
 | [] => by simp only [hashDs, List.map_nil]
 | x :: r => by simp only [hashDs, List.map_cons, hashDs_map w r]
theorem drawsDs_app : ∀ xs ys : List PyData, drawsDs (xs ++ ys) = drawsDs xs + drawsDs ys
 | [], ys => by simp [drawsDs]
 | x :: r, ys => by simp only [List.cons_append, drawsDs, drawsDs_app r ys]; omega
theorem depth_mem : ∀ {xs : List PyData} {x : PyData}, x ∈ xs -> x.depth <= PyData.depthAll xs
 | [], x, h => by cases h
 | y :: r, x, h => by
  simp only [PyData.depthAll]
  (rcases List.mem_cons.mp h with rfl | h)
  ·omega
  ·have := depth_mem h; omega
section
variable {prog : Program} {w : World} --
theorem hash_none {A : Around} {E : Value -> Shared -> Prop} {s : Shared} {Q : Int -> Shared -> Prop} (h : Q 0xFCA86420 { s with toks := s.toks + 1 }) : wpAny (model prog w) A (pyHash .none) Q E s := by
 unfold pyHash
 have hv : [Value.none].any Value.onHeap = false := rfl
 refine wpAny_bind ?_
 (rw [cRoomFor, if_neg (by rw [hv]; exact Bool.false_ne_true)]; refine wpAny_pure ?_)
 refine wpAny_bind (wpAny_specialOf (typeIs_none s) F.slot_NoneType_hash.lookup ?_)
 show wpAny _ _ (if (some (Value.builtin "NoneType.__hash__") == some Value.none) = true then _ else _) Q E s
 (rw [if_neg (by rw [beq_builtin_none]; exact Bool.false_ne_true)])
 refine wpAny_bind (wpAny_specialOf (typeIs_none s) F.slot_NoneType_hash.lookup ?_)
 show wpAny _ _ (callSpecialIfBoundUnlessNone? .none "__hash__" _ >>= _) Q E s
 refine wpAny_bind (wpAny_callSpecialIfBoundUnlessNone?_slot (typeIs_none s) F.slot_NoneType_hash
  (wpAny_call_entry F.slot_NoneType_hash (typeIs_none s) F.entry_NoneType_hash
   (show wpAny _ _ (do ret (← mkInt 0xFCA86420)) _ _ s from wpAny_ret_mkInt ?_) (F.args_NoneType_hash_1 _)))
 show wpAny _ _ (if (decide (-(2 : Int) ^ 63 <= 0xFCA86420) && decide ((0xFCA86420 : Int) < 2 ^ 63)) = true then _ else _) Q E _
 rw [if_pos (by decide)]
 exact wpAny_pure h
mutual
theorem hash_ok : ∀ (d : PyData) {A : Around} {E : Value -> Shared -> Prop} {s : Shared} {v : Value} {bs : List Addr} {Q : Int -> Shared -> Prop}, plD d = true -> Reads s.heap v d bs -> A.units + d.depth < cLine -> Q (hashD w d) { s with toks := s.toks + drawsD d } -> wpAny (model prog w) A (pyHash v) Q E s
 | .none, A, E, s, v, bs, Q, _, r, _, h => by cases r; simp only [hashD, drawsD] at h; exact hash_none h
 | .int i, A, E, s, v, bs, Q, _, r, _, h => by cases r; simp only [hashD, drawsD] at h; exact wpAny_pyHash_int h
 | .str x, A, E, s, v, bs, Q, _, r, _, h => by cases r; simp only [hashD, drawsD] at h; exact wpAny_pyHash_str h
 | .tuple xs, A, E, s, v, bs, Q, hp, r, hu, h => by
  have ih := hashes_ok xs
  rw [plD_tup, plDs_all, List.all_eq_true] at hp
  (simp only [PyData.depth] at hu)
  cases r with
  | @tuple a o items n _ _ ho hc hd hi =>
  have hT : s.TypeIs (.ref a) "tuple" := ⟨o, ho, hc⟩
  unfold pyHash pyHashByItsType
  refine wpAny_bind (wpAny_cRoomFor_or (.inr (by omega)) ?_)
  (refine wpAny_bind (wpAny_specialOf hT F.slot_tuple_hash.lookup ?_))
  show wpAny _ _ (if (some (Value.builtin "tuple.__hash__") == some Value.none) = true then _ else _) Q E s --
  (rw [if_neg (by rw [beq_builtin_none]; exact Bool.false_ne_true)])
  (refine wpAny_bind (wpAny_specialOf hT F.slot_tuple_hash.lookup ?_))
  show wpAny _ _ (callSpecialIfBoundUnlessNone? (.ref a) "__hash__" _ >>= _) Q E s --
  (refine wpAny_bind (wpAny_callSpecialIfBoundUnlessNone?_slot hT F.slot_tuple_hash (wpAny_call_entry F.slot_tuple_hash hT F.entry_tuple_hash ?_ (F.args_tuple_hash_1 _))))
  show wpAny _ _ (Builtin.Tuple.tupleItemsOf (.ref a) >>= _) _ _ s --
  (refine wpAny_bind (wpAny_tupleItemsOf ho hd ?_))
  refine wpAny_bind ?_
  rw [← Array.forIn_toList]
  refine wpAny_forIn_list _
   (fun rest (b : Array Int) s' => ∃ done left cs, xs = done ++ left /\ ReadsAll s.heap rest left cs /\ b.toList = done.map (hashD w) /\ s' = { s with toks := s.toks + drawsDs done })
   _ ?_ ?_ _ _ ⟨[], xs, _, rfl, hi, rfl, rfl⟩
  ·rintro x rest b s' ⟨done, left, cs, e, hl, hb, rfl⟩
   cases hl with
   | @cons _ _ k ks' _ _ h1 hl' =>
    have hm : k ∈ xs := by rw [e]; simp
    have hdk := depth_mem hm
    have e1 : ∀ A : Around, A.in1.units <= A.units + 1 := fun A => by first | exact Nat.le_refl _ | (unfold Around.in1; simp)
    have e1A := e1 A
    refine wpAny_bind (ih k hm (s := { s with toks := s.toks + drawsDs done }) (hp k hm) h1 (by omega) ?_)
    first
     | exact wpAny_pure ⟨done ++ [k], ks', _, by rw [e]; simp, hl', by simp [hb], by simp [drawsDs_app, drawsDs, Nat.add_assoc]⟩
     | exact wpAny_bind (wpAny_pure (wpAny_pure ⟨done ++ [k], ks', _, by rw [e]; simp, hl', by simp [hb], by simp [drawsDs_app, drawsDs, Nat.add_assoc]⟩))
  ·rintro b s' ⟨done, left, cs, e, hl, hb, rfl⟩
   cases hl
   rw [List.append_nil] at e
   subst e
   show wpAny _ _ (retInt (Builtin.Tuple.tupleHashOf b.toList)) _ _ _ --
   rw [hb, ← hashDs_map]
   refine wpAny_ret_mkInt ?_
   show wpAny _ _ (if (decide (-(2 : Int) ^ 63 <= Builtin.Tuple.tupleHashOf (hashDs w xs)) && decide (Builtin.Tuple.tupleHashOf (hashDs w xs) < 2 ^ 63)) = true then _ else _) Q E _
   simp only [hashD, drawsD] at h
   unfold reduceHash at h
   by_cases hr : (decide (-(2 : Int) ^ 63 <= Builtin.Tuple.tupleHashOf (hashDs w xs)) && decide (Builtin.Tuple.tupleHashOf (hashDs w xs) < 2 ^ 63)) = true
   ·rw [if_pos hr]
    rw [if_pos hr] at h
    (exact wpAny_pure (by simpa [Nat.add_assoc] using h))
   ·rw [if_neg hr]
    rw [if_neg hr] at h
    (exact wpAny_bind (wpAny_rule (wpAny_pure (by simpa [Nat.add_assoc] using h))))
 | .bool _, _, _, _, _, _, _, hp, _, _, _ => by simp [plD] at hp
 | .list _, _, _, _, _, _, _, hp, _, _, _ => by simp [plD] at hp
 | .dict _, _, _, _, _, _, _, hp, _, _, _ => by simp [plD] at hp
theorem hashes_ok : ∀ (xs : List PyData), ∀ d ∈ xs, ∀ {A : Around} {E : Value -> Shared -> Prop} {s : Shared} {v : Value} {bs : List Addr} {Q : Int -> Shared -> Prop}, plD d = true -> Reads s.heap v d bs -> A.units + d.depth < cLine -> Q (hashD w d) { s with toks := s.toks + drawsD d } -> wpAny (model prog w) A (pyHash v) Q E s
 | [], d, m => by cases m
 | x :: r, d, m => by
  intro h1 h2 h3 h4
  rcases List.mem_cons.mp m with e | m
  ·rw [e] at h1 h2 h3 h4
   exact hash_ok x h1 h2 h3 h4
  ·exact hashes_ok r d m h1 h2 h3 h4
end
mutual
theorem quiet_ok : ∀ (d : PyData) {n : Nat} {A : Around} {E : Value -> Shared -> Prop} {s : Shared} {v : Value} {bs : List Addr} {Q : Bool -> Shared -> Prop}, plD d = true -> Reads s.heap v d bs -> d.depth <= n -> Q true s -> wpAny (model prog w) A (eqIsQuiet n v) Q E s
 | .none, n, A, E, s, v, bs, Q, _, r, _, h => by cases r; rw [eqIsQuiet_byValue n rfl]; exact wpAny_pure h
 | .int i, n, A, E, s, v, bs, Q, _, r, _, h => by cases r; rw [eqIsQuiet_byValue n rfl]; exact wpAny_pure h
 | .str x, n, A, E, s, v, bs, Q, _, r, _, h => by cases r; rw [eqIsQuiet_byValue n rfl]; exact wpAny_pure h
 | .tuple xs, n, A, E, s, v, bs, Q, hp, r, hu, h => by
  have ih := quiets_ok xs
  rw [plD_tup, plDs_all, List.all_eq_true] at hp
  (simp only [PyData.depth] at hu)
  obtain ⟨m, rfl⟩ : ∃ m, n = m + 1 := ⟨n - 1, by omega⟩
  cases r with
  | @tuple a o items n _ _ ho hc hd hi =>
  have hT : s.TypeIs (.ref a) "tuple" := ⟨o, ho, hc⟩
  unfold eqIsQuiet
  (refine wpAny_bind (wpAny_specialOf hT F.slot_tuple_eq.lookup ?_))
  show wpAny _ _ (isInstance (.ref a) (.type "tuple") >>= _) _ _ s --
  (refine wpAny_bind (wpAny_isInstance hT isSubtype_tuple_tuple ?_))
  (simp only [Bool.not_true, Bool.false_eq_true, if_false])
  (refine wpAny_bind (wpAny_seqItems ho hd ?_))
  refine wpAny_bind ?_
  show wpAny _ _ (forIn items _ _) _ _ s --
  rw [← Array.forIn_toList]
  refine wpAny_forIn_list _ (fun rest r s' => r.1 = none /\ s' = s /\ ∃ left cs, (∀ x ∈ left, x ∈ xs) /\ ReadsAll s.heap rest left cs) _ ?_ ?_ _ _ ⟨rfl, rfl, xs, _, fun _ m => m, hi⟩
  ·rintro v rest r s' ⟨hr, rfl, left, cs, sub, hl⟩
   cases hl with
   | @cons _ _ k ks' _ _ h1 hl' =>
    have hm := sub k List.mem_cons_self
    have hdk := depth_mem hm
    refine wpAny_bind (ih k hm (hp k hm) h1 (by omega) ?_)
    (simp only [Bool.not_true, Bool.false_eq_true, if_false])
    exact wpAny_pure ⟨rfl, rfl, ks', _, fun x m => sub x (List.mem_cons_of_mem _ m), hl'⟩
  ·rintro ⟨r1, r2⟩ s' ⟨hr, rfl, _⟩
   simp only at hr
   subst hr
   exact wpAny_pure h
 | .bool _, _, _, _, _, _, _, _, hp, _, _, _ => by simp [plD] at hp
 | .list _, _, _, _, _, _, _, _, hp, _, _, _ => by simp [plD] at hp
 | .dict _, _, _, _, _, _, _, _, hp, _, _, _ => by simp [plD] at hp
theorem quiets_ok : ∀ (xs : List PyData), ∀ d ∈ xs, ∀ {n : Nat} {A : Around} {E : Value -> Shared -> Prop} {s : Shared} {v : Value} {bs : List Addr} {Q : Bool -> Shared -> Prop}, plD d = true -> Reads s.heap v d bs -> d.depth <= n -> Q true s -> wpAny (model prog w) A (eqIsQuiet n v) Q E s
 | [], d, m => by cases m
 | x :: r, d, m => by
  intro h1 h2 h3 h4
  rcases List.mem_cons.mp m with e | m
  ·rw [e] at h1 h2 h3
   exact quiet_ok x h1 h2 h3 h4
  ·exact quiets_ok r d m h1 h2 h3 h4
end
mutual
theorem reads_but : ∀ (d : PyData) {h h' : Heap} {v : Value} {bs : List Addr} {a : Addr} {o : Obj} {es : Array DictEntry} {ep : Nat}, plD d = true -> Reads h v d bs -> h.get? a = some o -> o.data = .dict es ep -> Heap.SameBut a h h' -> Reads h' v d bs
 | .none, _, _, _, _, _, _, _, _, _, r, _, _, _ => by cases r; exact .none
 | .int i, _, _, _, _, _, _, _, _, _, r, _, _, _ => by cases r; exact .int _ _
 | .str x, _, _, _, _, _, _, _, _, _, r, _, _, _ => by cases r; exact .str _ _
 | .tuple xs, h, h', v, bs, a, o, es, ep, hp, r, ho, hd, hs => by
  rw [plD_tup] at hp
  cases r with
  | @tuple b ob items n _ _ h1 h2 h3 h4 =>
   have ne : b ≠ a := by
    rintro rfl
    rw [h1] at ho
    cases ho
    rw [hd] at h3; cases h3
   exact .tuple ((hs.2 b ne).trans h1) h2 h3 (readss_but xs hp h4 ho hd hs)
 | .bool _, _, _, _, _, _, _, _, _, hp, _, _, _, _ => by simp [plD] at hp
 | .list _, _, _, _, _, _, _, _, _, hp, _, _, _, _ => by simp [plD] at hp
 | .dict _, _, _, _, _, _, _, _, _, hp, _, _, _, _ => by simp [plD] at hp
theorem readss_but : ∀ (xs : List PyData) {h h' : Heap} {vs : List Value} {bs : List Addr} {a : Addr} {o : Obj} {es : Array DictEntry} {ep : Nat}, plDs xs = true -> ReadsAll h vs xs bs -> h.get? a = some o -> o.data = .dict es ep -> Heap.SameBut a h h' -> ReadsAll h' vs xs bs
 | [], _, _, _, _, _, _, _, _, _, r, _, _, _ => by cases r; exact .nil
 | x :: xs, _, _, _, _, _, _, _, _, hp, r, ho, hd, hs => by
  rw [plDs_cons, Bool.and_eq_true] at hp
  cases r with
  | cons r1 r2 => exact .cons (reads_but x hp.1 r1 ho hd hs) (readss_but xs hp.2 r2 ho hd hs)
end
noncomputable def keyOk (d : PyData) : Bool := plD d && d.canLay0 && decide (d.depth <= 8)
theorem keyOk_iff {d : PyData} : keyOk d = true ↔ plD d = true /\ d.canLay0 = true /\ d.depth <= 8 := by
 unfold keyOk
 simp only [Bool.and_eq_true, decide_eq_true_eq, and_assoc]
noncomputable instance : DecidableEq PyData := fun a b => Classical.propDecidable (a = b)
noncomputable def dataKind (prog : Program) (w : World) : HeapKind prog w PyData where
 is h k a := keyOk k = true /\ ∃ bs, Reads h (.ref a) k bs
 hash := hashD w
 draws := drawsD
 room A := A.units + 10 < cLine
 inj := by
  rintro h a x y ⟨k1, b1, r1⟩ ⟨k2, b2, r2⟩
  exact Reads.unique x y _ _ _ (keyOk_iff.mp k1).2.1 r1 r2
 keeps := by
  rintro h h' k a d o es ep ⟨k1, b1, r1⟩ ho hd hs
  exact ⟨k1, b1, reads_but k (keyOk_iff.mp k1).1 r1 ho hd hs⟩
 pyHash := by
  rintro A E s k a Q hu ⟨k1, b1, r1⟩ h
  obtain ⟨p, c, d⟩ := keyOk_iff.mp k1
  exact hash_ok k p r1 (by omega) h
 eqBool := by
  rintro A E s x y a b Q hu ⟨k1, b1, r1⟩ ⟨k2, b2, r2⟩ h
  obtain ⟨p, c, d⟩ := keyOk_iff.mp k1
  obtain ⟨p', c', d'⟩ := keyOk_iff.mp k2
  refine eqAt_reads x y A s _ _ _ _ r1 r2 c c' (by omega) prog w E Q ?_
  have : PyData.eqv x y = decide (x = y) := by
   (rw [Bool.eq_iff_iff, decide_eq_true_eq])
   exact eqv_pl x y p p'
  rw [this]; exact h
 quiet := by
  rintro A E s k a Q ⟨k1, b1, r1⟩ h
  obtain ⟨p, c, d⟩ := keyOk_iff.mp k1
  exact quiet_ok k p r1 (by omega) h
end
end PF
namespace L2
open PySem PySem.Spec PyProof.Rows
abbrev Key := Sum Int Str
noncomputable def keyIs : Key -> Value -> Bool
 | .inl k, v => Value.isInt k v
 | .inr x, v => Value.isStrOf x v
noncomputable def keyH (w : World) : Key -> Int
 | .inl k => hashInt k
 | .inr x => hashStr w x
theorem keyIs_shape : ∀ {k : Key} {v : Value}, keyIs k v = true -> (∃ i t, k = Sum.inl i /\ v = Value.int i t) \/ (∃ x t, k = Sum.inr x /\ v = Value.str x t)
 | .inl i, v, h => by
  obtain ⟨t, e⟩ := Value.isInt_shape (k := i) (v := v) h
  exact .inl ⟨i, t, rfl, e⟩
 | .inr x, v, h => by
  obtain ⟨t, e⟩ := Value.isStrOf_shape (x := x) (v := v) h
  exact .inr ⟨x, t, rfl, e⟩
theorem keyIs_int (i : Int) (t : Tok) : keyIs (.inl i) (.int i t) = true := by simp [keyIs, Value.isInt]
theorem keyIs_str (x : Str) (t : Tok) : keyIs (.inr x) (.str x t) = true := by simp [keyIs, Value.isStrOf]
theorem key_ll (a b : Int) : decide ((Sum.inl a : Key) = Sum.inl b) = (a == b) := by
 by_cases e : a = b
 ·subst e; simp
 ·have h : ¬ (Sum.inl a : Key) = Sum.inl b := fun q => e (Sum.inl.inj q)
  rw [decide_eq_false h]
  exact (beq_eq_false_iff_ne.mpr e).symm
theorem key_rr (a b : Str) : decide ((Sum.inr a : Key) = Sum.inr b) = decide (a = b) := by
 by_cases e : a = b
 ·subst e; simp
 ·have h : ¬ (Sum.inr a : Key) = Sum.inr b := fun q => e (Sum.inr.inj q)
  rw [decide_eq_false h, decide_eq_false e]
theorem key_lr (a : Int) (b : Str) : decide ((Sum.inl a : Key) = Sum.inr b) = false := decide_eq_false (fun q => nomatch q)
theorem key_rl (a : Str) (b : Int) : decide ((Sum.inr a : Key) = Sum.inl b) = false := decide_eq_false (fun q => nomatch q)
noncomputable def mixKind (prog : Program) (w : World) : PySem.KeyKind prog w Key where
 is := keyIs
 hash := keyH w
 inj := fun v a b ha hb => by
  rcases keyIs_shape ha with ⟨i, t, rfl, rfl⟩ | ⟨x, t, rfl, rfl⟩
  ·rcases keyIs_shape hb with ⟨j, u, rfl, e⟩ | ⟨y, u, rfl, e⟩
   ·injection e with e1 _; rw [e1]
   ·exact nomatch e
  ·rcases keyIs_shape hb with ⟨j, u, rfl, e⟩ | ⟨y, u, rfl, e⟩
   ·exact nomatch e
   ·injection e with e1 _; rw [e1]
 byValue := fun k v h => by
  rcases keyIs_shape h with ⟨i, t, rfl, rfl⟩ | ⟨x, t, rfl, rfl⟩ <;> rfl
 pyHash := fun hv h => by
  rcases keyIs_shape hv with ⟨i, t, rfl, rfl⟩ | ⟨x, t, rfl, rfl⟩
  ·exact wpAny_pyHash_int h
  ·exact wpAny_pyHash_str h
 eqBool := fun hu hv h => by
  rcases keyIs_shape hu with ⟨i, t, rfl, rfl⟩ | ⟨x, t, rfl, rfl⟩
  ·rcases keyIs_shape hv with ⟨j, u, rfl, rfl⟩ | ⟨y, u, rfl, rfl⟩
   ·rw [key_ll] at h; exact wpAny_eqBool_int h
   ·rw [key_lr] at h; exact SeqAt.EqAt.int_str i t y u _ _ _ _ h
  ·rcases keyIs_shape hv with ⟨j, u, rfl, rfl⟩ | ⟨y, u, rfl, rfl⟩
   ·rw [key_rl] at h; exact SeqAt.EqAt.str_int x t j u _ _ _ _ h
   ·rw [key_rr] at h; exact wpAny_eqBool_str h
 «strs» := fun k x t v h => by
  rcases keyIs_shape h with ⟨i, u, rfl, e⟩ | ⟨y, u, rfl, e⟩
  ·exact nomatch e
  ·injection e with e1 _
   subst e1
   cases v <;> rfl
theorem mixKind_int (prog : Program) (w : World) (i : Int) (t : Tok) : (mixKind prog w).is (.inl i) (.int i t) = true := keyIs_int i t
theorem mixKind_str (prog : Program) (w : World) (x : Str) (t : Tok) : (mixKind prog w).is (.inr x) (.str x t) = true := keyIs_str x t
end L2
namespace L2
open PySem PySem.Spec PyProof.Rows
inductive V where
 | non | bl (b : Bool) | int (i : Int) | str (x : Str) | byt (b : Array UInt8) | flt (b : UInt64) | ref (a : Addr) | ty (n : String)
 deriving DecidableEq
noncomputable def RelV : V -> Value -> Prop
 | .non, u => u = Value.none
 | .bl b, u => u = Value.bool b
 | .int i, u => ∃ t, u = Value.int i t
 | .str x, u => ∃ t, u = Value.str x t
 | .byt b, u => ∃ t, u = Value.bytes b t
 | .flt b, u => ∃ t, u = Value.float b t
 | .ref a, u => u = Value.ref a
 | .ty n, u => u = Value.type n
abbrev Vals : List V -> List Value -> Prop := Paired RelV
theorem Vals.length {xs : List V} {us : List Value} (r : Vals xs us) : xs.length = us.length := Paired.length r
theorem Vals.get : ∀ {xs : List V} {us : List Value} {i : Nat} {x : V}, Vals xs us -> xs[i]? = some x -> ∃ u, us[i]? = some u /\ RelV x u
 | _, _, _, _, .nil, e => by simp at e
 | _, _, 0, _, .cons r _, e => by simp at e; subst e; exact ⟨_, rfl, r⟩
 | _, _, i + 1, x, .cons _ t, e => by
  obtain ⟨u, h1, h2⟩ := Vals.get (i := i) (x := x) t (by simpa using e)
  exact ⟨u, by simpa using h1, h2⟩
theorem Vals.set {x : V} {u : Value} (r : RelV x u) : ∀ {xs : List V} {us : List Value} (i : Nat), Vals xs us -> Vals (xs.set i x) (us.set i u)
 | _, _, _, .nil => .nil
 | _, _, 0, .cons _ t => .cons r t
 | _, _, i + 1, .cons q t => .cons q (Vals.set r i t)
theorem Vals.append : ∀ {xs ys : List V} {us ws : List Value}, Vals xs us -> Vals ys ws -> Vals (xs ++ ys) (us ++ ws)
 | _, _, _, _, .nil, s => s
 | _, _, _, _, .cons r t, s => .cons r (Vals.append t s)
theorem Vals.take : ∀ {xs : List V} {us : List Value} (n : Nat), Vals xs us -> Vals (xs.take n) (us.take n)
 | _, _, 0, _ => .nil
 | _, _, _ + 1, .nil => .nil
 | _, _, n + 1, .cons r t => .cons r (Vals.take n t)
theorem Vals.drop : ∀ {xs : List V} {us : List Value} (n : Nat), Vals xs us -> Vals (xs.drop n) (us.drop n)
 | _, _, 0, r => r
 | _, _, _ + 1, .nil => .nil
 | _, _, n + 1, .cons _ t => Vals.drop n t
noncomputable def RelO : Option V -> Option Value -> Prop
 | some v, some u => RelV v u
 | none, none => True
 | _, _ => False
noncomputable def KV {κ : Type} : List (κ × V) -> List (κ × Value) -> Prop := Paired fun (p : κ × V) (q : κ × Value) => p.1 = q.1 /\ RelV p.2 q.2
noncomputable def kV : Key -> V
 | .inl i => .int i
 | .inr x => .str x
inductive HO where
 /-- a list -/
 | lst (xs : List V)
 /-- a tuple (never changes) -/
 | tup (xs : List V)
 /-- a dict whose keys are ints and texts; one whose keys are tuples of ints and texts (the empty one is both) -/
 | dK (kvs : List (Key × V)) | dT (kvs : List (List Key × V))
 /-- one whose keys are plain tuples -/
 | dD (kvs : List (PyData × V))
 /-- a set of ints: its members, its size -/
 | set (S : Int -> Bool) (n : Nat)
 /-- an instance of the class at C, its dict at dx, its attributes -/
 | ins (C dx : Addr) (fs : List (Str × V))
 /-- the dict of the instance at x -/
 | own (x : Addr)
 /-- the dict of an exception -/
 | xd (fs : List (Str × V))
 /-- a bound method, f of x -/
 | met (f x : Addr)
 /-- a range object lo, lo + 1, .. below hi -/
 | rng (lo hi : Int)
 /-- a thing that is known to the object (the script; a dict while a loop walks it): read, never written while it is so -/
 | frz (o : Obj) (u : HO)
 /-- a code object's table -/
 | tbl (ps : Array Value)
 /-- an exception of the class at C, its attributes -/
 | exn (C : Addr) (fs : List (Str × V))
 /-- any other thing, by what is true of its one object (a def of one's own: SetO a S n := HO.ext fun h => ..) -/
 | ext (φ : Heap -> Prop)
abbrev Hp := Addr -> Option HO
mutual
inductive KD (H : Hp) : V -> PyData -> Prop
 | non : KD H .non .none
 | int (i : Int) : KD H (.int i) (.int i)
 | str (x : Str) : KD H (.str x) (.str x)
 | tup {p : Addr} {xs : List V} {ds : List PyData} : H p = some (.tup xs) -> KDs H xs ds -> KD H (.ref p) (.tuple ds)
inductive KDs (H : Hp) : List V -> List PyData -> Prop
 | nil : KDs H [] []
 | cons {x : V} {xs : List V} {d : PyData} {ds : List PyData} : KD H x d -> KDs H xs ds -> KDs H (x :: xs) (d :: ds)
end
mutual
theorem KD.mono {H H' : Hp} (ht : ∀ b xs, H b = some (.tup xs) -> H' b = some (.tup xs)) : ∀ {v : V} {d : PyData}, KD H v d -> KD H' v d
 | _, _, .non => .non
 | _, _, .int i => .int i
 | _, _, .str x => .str x
 | _, _, .tup e r => .tup (ht _ _ e) (KDs.mono ht r)
theorem KDs.mono {H H' : Hp} (ht : ∀ b xs, H b = some (.tup xs) -> H' b = some (.tup xs)) : ∀ {v : List V} {d : List PyData}, KDs H v d -> KDs H' v d
 | _, _, .nil => .nil
 | _, _, .cons a r => .cons (KD.mono ht a) (KDs.mono ht r)
end
noncomputable def upd (H : Hp) (a : Addr) (o : HO) : Hp := fun b => if b = a then some o else H b
theorem upd_same {H : Hp} {a : Addr} {o : HO} : upd H a o a = some o := by unfold upd; rw [if_pos rfl]
theorem upd_ne {H : Hp} {a b : Addr} {o : HO} (h : b ≠ a) : upd H a o b = H b := by unfold upd; rw [if_neg h]
theorem ne_of_none {H : Hp} {a b : Addr} {o : HO} (h : H a = some o) (h' : H b = none) : a ≠ b := by
 intro e; subst e; rw [h] at h'; cases h'
noncomputable def TupX (h : Heap) (a : Addr) (its : Array Value) : Prop := ∃ n, h.get? a = some { cls := .type "tuple", data := .seq its n }
theorem TupX.tup {h : Heap} {a : Addr} {its : Array Value} (x : TupX h a its) : IsTup h a its := let ⟨n, e⟩ := x; ⟨_, e, rfl, n, rfl⟩
theorem TupX.new (h : Heap) (its : Array Value) : TupX (h.push { cls := .type "tuple", data := .seq its }) h.objs.size its := ⟨_, Heap.get?_push_size _ rfl⟩
abbrev excO (C : Addr) (dx : Option Addr) (t : Addr) : Obj := { cls := .ref C, dict := dx, data := .fields #[.ref t, .none, .none, .none, .bool false, .none] }
section
variable (P : Program) (w : World)
noncomputable def ObjOk (H : Hp) (h : Heap) (a : Addr) : HO -> Prop
 | .lst xs => xs.length <= sizeLine /\ ∃ (its : List Value) (n : Nat), Vals xs its /\ h.get? a = some { cls := .type "list", data := .seq its.toArray n }
 | .tup xs => xs.length <= sizeLine /\ ∃ its : List Value, Vals xs its /\ TupX h a its.toArray
 | .dK kvs => kvs.length <= sizeLine /\ (a == sysModules) = false /\ ∃ vs, KV kvs vs /\ h.DictOf (mixKind P w) a vs
 | .dT kvs => kvs.length <= sizeLine /\ (a == sysModules) = false /\ ∃ xs : List (List Key × Addr × Value),
   Paired (fun (p : List Key × V) (q : List Key × Addr × Value) => p.1 = q.1 /\ H q.2.1 = some (.tup (p.1.map kV)) /\ RelV p.2 q.2.2) kvs xs /\
   ∃ o es ep, h.get? a = some o /\ o.ExactDict /\ o.data = .dict es ep /\ es.toList = xs.map (entryOfKey (tupleKind (mixKind P w))) /\ (xs.map (·.1)).Nodup
 | .dD kvs => kvs.length <= sizeLine /\ (a == sysModules) = false /\ ∃ xs : List (PyData × Addr × Value),
   Paired (fun (p : PyData × V) (q : PyData × Addr × Value) => p.1 = q.1 /\ (PF.keyOk p.1 = true /\ KD H (.ref q.2.1) p.1) /\ RelV p.2 q.2.2) kvs xs /\
   ∃ o es ep, h.get? a = some o /\ o.ExactDict /\ o.data = .dict es ep /\ es.toList = xs.map (entryOfKey (PF.dataKind P w)) /\ (xs.map (·.1)).Nodup
 | .set S n => h.SetOf (intKind P w) a S n
 | .ins C dx fs => H dx = some (.own a) /\ fs.length <= 1000 /\ dx ≠ a /\ h.get? a = some (PySem.W.instObj C dx) /\
   ∃ mA, h.Ns1 dx mA /\ (∀ f, RelO (fs.lookup f) (mA f)) /\ PySem.Within mA (fs.map (·.1))
 | .exn C fs => fs.length <= 1000 /\ ∃ (t : Addr) (dxo : Option Addr), h.get? a = some (excO C dxo t) /\ ((dxo = none /\ fs = []) \/ ∃ dx, dxo = some dx /\ H dx = some (.own a) /\ dx ≠ a /\
   ∃ mA, h.Ns1 dx mA /\ (∀ f, RelO (fs.lookup f) (mA f)) /\ PySem.Within mA (fs.map (·.1)))
 | .own _ => ∃ o, h.get? a = some o
 | .xd fs => ∃ mA, h.Ns1 a mA /\ ∀ f, RelO (fs.lookup f) (mA f)
 | .rng lo hi => ∃ t u v, h.get? a = some { cls := .type "range", data := .fields #[.int lo t, .int hi u, .int 1 v] }
 | .frz o u => h.get? a = some o /\ ObjOk H h a u
 | .tbl ps => h.get? a = some { cls := .none, data := .fields ps }
 | .met f x => h.get? a = some (PySem.W.methodObj (.ref f) (.ref x))
 | .ext φ => φ h /\ (∃ o, h.get? a = some o) /\ ∀ h1 h2 : Heap, φ h1 -> (∀ o, h1.get? a = some o -> h2.get? a = some o) -> φ h2
noncomputable def HOk (H : Hp) (h : Heap) : Prop := ∀ a o, H a = some o -> ObjOk P w H h a o
end
section
variable {P : Program} {w : World} {H H' : Hp} {h h' : Heap} {a : Addr} {o : HO}
theorem ObjOk.lt (x : ObjOk P w H h a o) : a < h.objs.size := by
 cases o with
 | lst xs => obtain ⟨_, _, _, _, e⟩ := x; exact Heap.lt_size e
 | tup xs => obtain ⟨_, _, _, p⟩ := x; exact p.tup.lt
 | dK kvs => obtain ⟨_, _, _, _, o, _, _, e, _⟩ := x; exact Heap.lt_size e
 | dT kvs => obtain ⟨_, _, _, _, o, _, _, e, _⟩ := x; exact Heap.lt_size e
 | dD kvs => obtain ⟨_, _, _, _, o, _, _, e, _⟩ := x; exact Heap.lt_size e
 | set S n => obtain ⟨o, _, _, _, e, _⟩ := x; exact Heap.lt_size e
 | ins C dx fs => obtain ⟨_, _, _, e, _⟩ := x; exact Heap.lt_size e
 | exn C fs => obtain ⟨_, _, _, e, _⟩ := x; exact Heap.lt_size e
 | own y => obtain ⟨_, e⟩ := x; exact Heap.lt_size e
 | xd fs => obtain ⟨_, ⟨_, _, _, e, _⟩, _⟩ := x; exact Heap.lt_size e
 | rng lo hi => obtain ⟨_, _, _, e⟩ := x; exact Heap.lt_size e
 | frz ob u => obtain ⟨e, _⟩ := x; exact Heap.lt_size e
 | tbl ps => exact Heap.lt_size (show h.get? a = some _ from x)
 | met f y => exact Heap.lt_size (show h.get? a = some _ from x)
 | ext φ => obtain ⟨_, ⟨_, e⟩, _⟩ := x; exact Heap.lt_size e
theorem Paired.mapP {α β : Type} {F G : α -> β -> Prop} : ∀ {l₁ : List α} {l₂ : List β}, Paired F l₁ l₂ -> (∀ a b, F a b -> G a b) -> Paired G l₁ l₂
 | _, _, .nil, _ => .nil
 | _, _, .cons r t, f => .cons (f _ _ r) (Paired.mapP t f)
theorem ObjOk.stay (x : ObjOk P w H h a o) (k : ∀ b u, (b = a \/ H b = some (.own a)) -> h.get? b = some u -> h'.get? b = some u)
  (ho : ∀ b, H b = some (.own a) -> H' b = some (.own a)) (ht : ∀ b xs, H b = some (.tup xs) -> H' b = some (.tup xs)) : ObjOk P w H' h' a o := by
 induction o with
 | lst xs => obtain ⟨z, its, n, r, e⟩ := x; exact ⟨z, its, n, r, k _ _ (.inl rfl) e⟩
 | tup xs => obtain ⟨z, its, r, n, e⟩ := x; exact ⟨z, its, r, n, k _ _ (.inl rfl) e⟩
 | dK kvs => obtain ⟨z, y, vs, r, ob, es, ep, e, c⟩ := x; exact ⟨z, y, vs, r, ob, es, ep, k _ _ (.inl rfl) e, c⟩
 | dT kvs =>
  obtain ⟨z, y, xs, r, ob, es, ep, e, c⟩ := x
  exact ⟨z, y, xs, Paired.mapP r fun p q z => ⟨z.1, ht _ _ z.2.1, z.2.2⟩, ob, es, ep, k _ _ (.inl rfl) e, c⟩
 | dD kvs =>
  obtain ⟨z, y, xs, r, ob, es, ep, e, c⟩ := x
  exact ⟨z, y, xs, Paired.mapP r fun p q z => ⟨z.1, ⟨z.2.1.1, z.2.1.2.mono ht⟩, z.2.2⟩, ob, es, ep, k _ _ (.inl rfl) e, c⟩
 | set S n => obtain ⟨ob, es, ep, t, e, c⟩ := x; exact ⟨ob, es, ep, t, k _ _ (.inl rfl) e, c⟩
 | ins C dx fs =>
  obtain ⟨d, z, ne, e, mA, ⟨od, es, ep, e2, c⟩, r⟩ := x
  exact ⟨ho _ d, z, ne, k _ _ (.inl rfl) e, mA, ⟨od, es, ep, k _ _ (.inr d) e2, c⟩, r⟩
 | exn C fs =>
  obtain ⟨z, t, dxo, e, q⟩ := x
  refine ⟨z, t, dxo, k _ _ (.inl rfl) e, ?_⟩
  rcases q with q | ⟨dx, q, d, ne, mA, ⟨od, es, ep, e2, c⟩, r⟩
  ·exact .inl q
  ·exact .inr ⟨dx, q, ho _ d, ne, mA, ⟨od, es, ep, k _ _ (.inr d) e2, c⟩, r⟩
 | own y => obtain ⟨ob, e⟩ := x; exact ⟨ob, k _ _ (.inl rfl) e⟩
 | xd fs => obtain ⟨mA, ⟨od, es, ep, e, c⟩, r⟩ := x; exact ⟨mA, ⟨od, es, ep, k _ _ (.inl rfl) e, c⟩, r⟩
 | rng lo hi => obtain ⟨t, u, v, e⟩ := x; exact ⟨t, u, v, k _ _ (.inl rfl) e⟩
 | frz ob u ih => obtain ⟨e, q⟩ := x; exact ⟨k _ _ (.inl rfl) e, ih q⟩
 | tbl ps =>
  have e : h.get? a = some { cls := .none, data := .fields ps } := x
  show h'.get? a = some { cls := .none, data := .fields ps }
  exact k a _ (.inl rfl) e
 | met f y =>
  have e : h.get? a = some (PySem.W.methodObj (.ref f) (.ref y)) := x
  show h'.get? a = some (PySem.W.methodObj (.ref f) (.ref y))
  exact k a _ (.inl rfl) e
 | ext φ => obtain ⟨p, ⟨o, e⟩, st⟩ := x; exact ⟨st _ _ p fun o q => k _ _ (.inl rfl) q, ⟨o, k _ _ (.inl rfl) e⟩, st⟩
theorem HOk.lt (x : HOk P w H h) (e : H a = some o) : a < h.objs.size := (x a o e).lt
theorem HOk.fresh (x : HOk P w H h) (e : h.objs.size <= a) : H a = none := by
 cases q : H a with
 | none => rfl
 | some u => exact absurd (Nat.lt_of_lt_of_le (x.lt q) e) (Nat.lt_irrefl _)
theorem HOk.kept (x : HOk P w H h) (k : ∀ b u, h.get? b = some u -> h'.get? b = some u) : HOk P w H h' := fun a o e =>
 (x a o e).stay (fun b u _ q => k b u q) (fun _ q => q) fun _ _ q => q
theorem HOk.laid (x : HOk P w H h) (k : ∀ b u, h.get? b = some u -> h'.get? b = some u) (hp : h.objs.size <= a) (new : ObjOk P w (upd H a o) h' a o) : HOk P w (upd H a o) h' := fun b u e => by
 have hn := x.fresh hp
 by_cases hb : b = a
 ·subst hb; rw [upd_same] at e; cases e; exact new
 ·rw [upd_ne hb] at e
  exact (x b u e).stay (fun c v _ q => k c v q) (fun c q => by rw [upd_ne (ne_of_none q hn)]; exact q) fun c xs q => by rw [upd_ne (ne_of_none q hn)]; exact q
end
noncomputable def Rd (H : Hp) (a : Addr) (u : HO) : Prop := H a = some u \/ ∃ o, H a = some (.frz o u)
theorem Rd.ok {P : Program} {w : World} {H : Hp} {h : Heap} {a : Addr} {u : HO} (r : Rd H a u) (x : HOk P w H h) : ObjOk P w H h a u := by
 rcases r with r | ⟨o, r⟩
 ·exact x a u r
 ·obtain ⟨_, q⟩ := x a _ r
  exact q
noncomputable def Mut : Option HO -> Prop
 | some (.lst _) => True
 | some (.dK _) => True
 | some (.dT _) => True
 | some (.dD _) => True
 | some (.set _ _) => True
 | some (.ins _ _ _) => True
 | some (.ext _) => True
 | some (.exn _ _) => True
 | _ => False
section
variable {P : Program} {w : World} {H : Hp} {h h' : Heap} {x e : Addr} {o' : HO}
theorem HOk.write (ok : HOk P w H h) (mu : Mut (H x)) (he : e = x \/ H e = some (.own x)) (k : ∀ b u, b ≠ e -> h.get? b = some u -> h'.get? b = some u) (heo : ∃ u, h'.get? e = some u)
  (new : ObjOk P w (upd H x o') h' x o') : HOk P w (upd H x o') h' := fun b u q => by
 have nown : ∀ c y, H c = some (.own y) -> c ≠ x := fun c y r z => by subst z; rw [r] at mu; exact mu
 have ntup : ∀ c xs, H c = some (.tup xs) -> c ≠ x := fun c xs r z => by subst z; rw [r] at mu; exact mu
 by_cases hb : b = x
 ·subst hb; rw [upd_same] at q; cases q; exact new
 ·rw [upd_ne hb] at q
  by_cases hbe : b = e
  ·have q' : H b = some (.own x) := by
    rcases he with z | z
    ·exact absurd (hbe.trans z) hb
    ·rw [hbe]; exact z
   rw [q] at q'; cases q'
   obtain ⟨v, hv⟩ := heo
   exact ⟨v, by rw [hbe]; exact hv⟩
  ·refine (ok b u q).stay (fun c v hc r => k c v ?_ r) (fun c r => by rw [upd_ne (nown c b r)]; exact r) fun c xs r => by rw [upd_ne (ntup c xs r)]; exact r
   rcases hc with rfl | hc
   ·exact hbe
   ·rintro rfl
    rcases he with z | z
    ·exact nown c b hc z
    ·rw [hc] at z; cases z; exact hb rfl
end
structure Un (fs ex : List Addr) (H H' : Hp) (h h' : Heap) : Prop where
 keep : ∀ b o, h.get? b = some o -> H b = none -> b ∉ fs -> b ∉ ex -> h'.get? b = some o
 slot : ∀ b o, h.get? b = some o -> H b = none -> b ∈ fs -> b ∉ ex -> ∃ sl, h'.get? b = some { o with slots := sl }
 free : ∀ b o, h.get? b = some o -> H b = none -> b ∉ ex -> H' b = none
 there : ∀ b o, h.get? b = some o -> b ∉ ex -> ∃ o', h'.get? b = some o'
 tups : ∀ b xs, H b = some (.tup xs) -> H' b = some (.tup xs)
 frzs : ∀ b o u, H b = some (.frz o u) -> H' b = some (.frz o u)
 tbls : ∀ b ps, H b = some (.tbl ps) -> ∃ more, H' b = some (.tbl (ps ++ more))
section
variable {fs fs' ex ex' : List Addr} {H H1 H2 : Hp} {h h1 h2 h' : Heap} {a x e : Addr} {o : HO}
theorem Un.any (u : Un fs ex H H1 h h1) {b : Addr} {ob : Obj} (q : h.get? b = some ob) (n : H b = none) (hx : b ∉ ex) : ∃ sl, h1.get? b = some { ob with slots := sl } := by
 by_cases hb : b ∈ fs
 ·exact u.slot b ob q n hb hx
 ·exact ⟨ob.slots, u.keep b ob q n hb hx⟩
theorem Un.kept (k : ∀ b u, h.get? b = some u -> h'.get? b = some u) : Un fs ex H H h h' :=
 ⟨fun b ob q _ _ _ => k b ob q, fun b ob q _ _ _ => ⟨ob.slots, k b ob q⟩, fun _ _ _ n _ => n, fun b ob q _ => ⟨ob, k b ob q⟩, fun _ _ q => q, fun _ _ _ q => q, fun _ ps q => ⟨#[], by rw [q]; simp⟩⟩
theorem Un.refl : Un fs ex H H h h := Un.kept fun _ _ q => q
theorem Un.laid (k : ∀ b u, h.get? b = some u -> h'.get? b = some u) (hp : h.objs.size <= a) (hn : H a = none) : Un fs ex H (upd H a o) h h' where
 keep := fun b u q _ _ _ => k b u q
 slot := fun b u q _ _ _ => ⟨u.slots, k b u q⟩
 free := fun b u q n _ => by rw [upd_ne (Nat.ne_of_lt (Nat.lt_of_lt_of_le (Heap.lt_size q) hp))]; exact n
 there := fun b u q _ => ⟨u, k b u q⟩
 tups := fun b xs q => by rw [upd_ne (ne_of_none q hn)]; exact q
 frzs := fun b u xs q => by rw [upd_ne (ne_of_none q hn)]; exact q
 tbls := fun b ps q => ⟨#[], by rw [upd_ne (ne_of_none q hn), q]; simp⟩
theorem Un.write (mu : Mut (H x)) (he : e = x \/ H e = some (.own x)) (k : ∀ b u, b ≠ e -> h.get? b = some u -> h'.get? b = some u) (heo : ∃ u, h'.get? e = some u) : Un fs ex H (upd H x o) h h' := by
 have hx : ∀ b, H b = none -> b ≠ x := fun b n z => by subst z; rw [n] at mu; exact mu
 have hb : ∀ b, H b = none -> b ≠ e := fun b n z => by
  subst z
  rcases he with r | r
  ·exact hx b n r
  ·rw [n] at r; cases r
 have hm : ∀ b u, H b = some u -> ¬ Mut (some u) -> b ≠ x := fun b u q nm z => by subst z; rw [q] at mu; exact nm mu
 refine ⟨fun b u q n _ _ => k b u (hb b n) q, fun b u q n _ _ => ⟨u.slots, k b u (hb b n) q⟩, fun b u q n _ => by rw [upd_ne (hx b n)]; exact n, fun b u q _ => ?_,
  fun b xs q => by rw [upd_ne (hm b _ q fun z => z)]; exact q, fun b u xs q => by rw [upd_ne (hm b _ q fun z => z)]; exact q, fun b ps q => ⟨#[], by rw [upd_ne (hm b _ q fun z => z), q]; simp⟩⟩
 by_cases hbe : b = e
 ·subst hbe; exact heo
 ·exact ⟨u, k b u hbe q⟩
end
noncomputable def trk (h : Heap) (H : Hp) : List Addr := (List.range h.objs.size).filter fun a => (H a).isSome
noncomputable def hidT (h : Heap) (H : Hp) : Heap := PySem.W.hideAll h (trk h H)
theorem hidT_size (h : Heap) (H : Hp) : (hidT h H).objs.size = h.objs.size := PySem.W.hideAll_size _ _
theorem hidT_get {h : Heap} {H : Hp} {b : Addr} {o : Obj} (e : h.get? b = some o) (n : H b = none) : (hidT h H).get? b = some o :=
 PySem.W.hideAll_get _ e fun hm => by
  have q : (H b).isSome = true := (List.mem_filter.mp hm).2
  rw [n] at q; simp at q
theorem of_hidT {h : Heap} {H : Hp} {b : Addr} {o : Obj} (e : (hidT h H).get? b = some o) : h.get? b = some o /\ H b = none := by
 have e' : h.get? b = some o := PySem.W.of_hideAll (trk h H) e
 refine ⟨e', ?_⟩
 cases q : H b with
 | none => rfl
 | some x =>
  have hm : b ∈ trk h H := List.mem_filter.mpr ⟨List.mem_range.mpr (Heap.lt_size e'), by simp [q]⟩
  have z : (hidT h H).get? b = none := PySem.W.hideAll_none (trk h H) hm
  rw [z] at e; cases e
noncomputable def allNews (g h : Heap) (L : Addr) : List (Addr × Obj) := (List.range h.objs.size).filterMap fun a => if a = L \/ (g.get? a).isSome = true then none else (h.get? a).map fun o => (a, o)
noncomputable def rest (g h : Heap) (L d : Addr) : List (Addr × Obj) := (allNews g h L).filter fun p => decide (p.1 ≠ d)
end L2
namespace L2
open PySem PySem.Spec PyProof.Rows
structure Mod (K : PySem.W.Frag) (mg : Str -> Option Value) (base : Heap) : Prop where
 kin : K.In base
 glob : base.Ns mainGlobals mg
 blt : ∃ mb, base.Ns builtinsNs mb /\ ∀ x : Str, x ≠ "__name__" -> mb x = bootBuiltins x
 nolimit : base.NoLimit
structure Cx where
 prog : Program
 w : World
 K : PySem.W.Frag
 mg : Str -> Option Value
 base : Heap
 A : Around
 N : List Str
 s₀ : Shared
 H₀ : Hp
 env : Env
 outer : List Env
 stack : List Env
 ex : List Addr
 fn : Str -> Bool
 calm : Bool
 pn : List (Addr × Obj)
 xe : Value -> Shared -> Prop
noncomputable def frs (l : List Env) : List Addr := l.filterMap (·.frame)
noncomputable abbrev Cx.fs (X : Cx) : List Addr := frs X.outer
noncomputable def Vis (sc : Scope) (x : Str) : Prop := sc.names.lookup x = some .local \/ sc.names.lookup x = some .cell \/ sc.names.lookup x = some .free
noncomputable def Loc (sc : Scope) (x : Str) : Prop := sc.names.lookup x = some .local \/ sc.names.lookup x = some .cell
noncomputable def Look (env : Env) (h : Heap) (m : Str -> Option Value) (x : Str) (u : Value) : Prop :=
 (env.kindOf x = some .local /\ m x = some u) \/ ((env.kindOf x = some .cell \/ env.kindOf x = some .free) /\ ∃ c, env.cells.lookup x = some c /\ h.IsCell c (some u))
structure Cx.Ok (X : Cx) : Prop where
 mod : Mod X.K X.mg X.base
 kind : X.env.scope.kind = .function
 glob : X.env.globals = mainGlobals
 blt : X.env.builtins = builtinsNs
 above : X.s₀.heap.objs.size <= X.env.locals
 inj : ∀ x y c, X.env.cells.lookup x = some c -> X.env.cells.lookup y = some c -> x = y
 has : ∀ x, (X.env.kindOf x = some .cell \/ X.env.kindOf x = some .free) -> ∃ c, X.env.cells.lookup x = some c
 cab : ∀ x c, X.fn x = true -> X.env.cells.lookup x = some c -> X.s₀.heap.objs.size <= c
 hd : X.calm = true -> X.A.handled = none
 frames : X.A.frames = some X.stack
 stk : X.stack = X.outer \/ (X.stack = X.env :: X.outer /\ X.env.frame = some X.env.locals)
 exf : ∀ b ∈ X.ex, b ≠ X.env.locals /\ ∀ x c, X.env.cells.lookup x = some c -> c ≠ b
 bs : ∀ b o, X.base.get? b = some o -> X.s₀.heap.get? b = some o /\ X.H₀ b = none
 bsz : X.base.objs.size <= X.s₀.heap.objs.size
 noex : ∀ b o, X.base.get? b = some o -> b ∉ X.ex
 exfs : ∀ b ∈ X.ex, b ∉ X.fs
 funs : X.s₀.heap.FunFrames X.base X.outer
 frf : ∀ b ∈ X.fs, X.H₀ b = none
structure Inv (X : Cx) (pins : List (Addr × Obj)) (σ : List (Option V)) (H : Hp) (s : Shared) : Prop where
 ok : X.Ok
 os : s.os = X.s₀.os
 bare : AllBare s.gens
 base : Un X.fs X.ex X.H₀ H X.s₀.heap s.heap
 loc : ∃ m, s.heap.Ns X.env.locals m /\ ∀ (i : Nat) (x : Str) (v : V), X.N[i]? = some x -> σ[i]? = some (some v) -> Vis X.env.scope x -> ∃ u, RelV v u /\ Look X.env s.heap m x u
 cell : ∀ x c, X.env.cells.lookup x = some c -> ∃ v, s.heap.IsCell c v
 free : H X.env.locals = none
 freeC : ∀ x c, X.env.cells.lookup x = some c -> H c = none
 pin : ∀ p ∈ X.pn ++ pins, s.heap.get? p.1 = some p.2 /\ H p.1 = none /\ p.1 ≠ X.env.locals /\ p.1 ∉ X.fs /\ ∀ v, p.2.data ≠ .cell v
 hok : HOk X.prog X.w H s.heap
 len : σ.length = X.N.length
section
variable {X : Cx} {pins : List (Addr × Obj)} {σ : List (Option V)} {H H' : Hp} {s : Shared} {h' : Heap}
theorem Cx.Ok.nofr (ok : X.Ok) {b : Addr} {o : Obj} (e : X.base.get? b = some o) : b ∉ X.fs := fun hb => by
 have := (ok.funs.mem hb).1
 rw [e] at this; cases this
theorem Inv.bs (I : Inv X pins σ H s) : ∀ b o, X.base.get? b = some o -> s.heap.get? b = some o /\ H b = none := fun b o e =>
 ⟨I.base.keep b o (I.ok.bs b o e).1 (I.ok.bs b o e).2 (I.ok.nofr e) (I.ok.noex b o e), I.base.free b o (I.ok.bs b o e).1 (I.ok.bs b o e).2 (I.ok.noex b o e)⟩
theorem Inv.bk (I : Inv X pins σ H s) : ∀ b o, X.base.get? b = some o -> s.heap.get? b = some o := fun b o e => (I.bs b o e).1
theorem Inv.mod (I : Inv X pins σ H s) : Mod X.K X.mg X.base := I.ok.mod
theorem Inv.kIn (I : Inv X pins σ H s) : X.K.In s.heap := I.ok.mod.kin.keeps I.bk
theorem Inv.lt (I : Inv X pins σ H s) : X.env.locals < s.heap.objs.size := let ⟨_, hn, _⟩ := I.loc; hn.lt
theorem Inv.sz (I : Inv X pins σ H s) : X.s₀.heap.objs.size <= s.heap.objs.size := Nat.le_trans I.ok.above (Nat.le_of_lt I.lt)
theorem Inv.nofs (I : Inv X pins σ H s) {a : Addr} (h : s.heap.objs.size <= a) : a ∉ X.fs := fun hb => by
 obtain ⟨_, o, ho, _⟩ := I.ok.funs.mem hb
 exact absurd (Nat.lt_of_lt_of_le (Heap.lt_size ho) (Nat.le_trans I.sz h)) (Nat.lt_irrefl _)
theorem Inv.cne (I : Inv X pins σ H s) : ∀ x c, X.env.cells.lookup x = some c -> c ≠ X.env.locals := fun x c e z => by
 obtain ⟨v, o, ho, hd⟩ := I.cell x c e
 obtain ⟨m, ⟨o', es, ep, ho', hd', _⟩, _⟩ := I.loc
 rw [z, ho'] at ho; cases ho; rw [hd'] at hd; cases hd
theorem Inv.funs (I : Inv X pins σ H s) : s.heap.FunFrames X.base X.outer := by
 have all : ∀ (l : List Env), (∀ b ∈ frs l, b ∈ X.fs) -> X.s₀.heap.FunFrames X.base l -> s.heap.FunFrames X.base l := by
  intro l
  induction l with
  | nil => intro _ _; trivial
  | cons env r ih =>
   intro hs hl
   obtain ⟨hk, ⟨L, o, hf, hn, ho, hd⟩, hr⟩ := hl
   have hL : L ∈ X.fs := hs L (by unfold frs; rw [List.filterMap_cons, hf]; exact List.mem_cons_self)
   obtain ⟨sl, e⟩ := I.base.slot L o ho (I.ok.frf L hL) hL fun z => I.ok.exfs L z hL
   exact ⟨hk, ⟨L, _, hf, hn, e, hd⟩, ih (fun b hb => hs b (by unfold frs; rw [List.filterMap_cons, hf]; exact List.mem_cons_of_mem _ hb)) hr⟩
 exact all X.outer (fun _ hb => hb) I.ok.funs
theorem Inv.stack (I : Inv X pins σ H s) : s.heap.FunFrames X.base X.stack := by
 rcases I.ok.stk with e | ⟨e, hf⟩
 ·rw [e]; exact I.funs
 ·rw [e]
  obtain ⟨m, hn, _⟩ := I.loc
  refine .cons (by rw [I.ok.kind]; decide) hf hn ?_ I.funs
  exact Heap.get?_none_of_le (Nat.le_trans I.ok.bsz I.ok.above)
theorem Inv.stkSub (I : Inv X pins σ H s) : ∀ b ∈ frs X.stack, b ∈ X.env.locals :: X.fs := fun b hb => by
 rcases I.ok.stk with e | ⟨e, hf⟩
 ·rw [e] at hb; exact List.mem_cons_of_mem _ hb
 ·rw [e] at hb
  unfold frs at hb
  rw [List.filterMap_cons, hf] at hb
  exact hb
theorem Inv.stkFree (I : Inv X pins σ H s) : ∀ b ∈ frs X.stack, H b = none := fun b hb => by
 rcases List.mem_cons.mp (I.stkSub b hb) with e | hb
 ·rw [e]; exact I.free
 ·obtain ⟨_, o, ho, _⟩ := I.ok.funs.mem hb
  exact I.base.free b o ho (I.ok.frf b hb) fun z => I.ok.exfs b z hb
theorem Inv.step {g' : Array GenState} {t' : Nat} {d' : Drawn} {ch : List Addr} (I : Inv X pins σ H s)
  (hch : ∀ b ∈ ch, (b ∈ X.ex \/ X.s₀.heap.objs.size <= b) /\ b ≠ X.env.locals /\ (∀ x c, X.env.cells.lookup x = some c -> c ≠ b) /\ ∀ p ∈ X.pn ++ pins, p.1 ≠ b)
  (keep : ∀ b o, b ≠ X.env.locals -> b ∉ X.fs -> b ∉ ch -> s.heap.get? b = some o -> H b = none -> h'.get? b = some o)
  (slot : ∀ b o, b ≠ X.env.locals -> b ∈ X.fs -> b ∉ ch -> s.heap.get? b = some o -> H b = none -> ∃ sl, h'.get? b = some { o with slots := sl }) (free : ∀ b o, b ∉ ch -> s.heap.get? b = some o -> H b = none -> H' b = none)
  (there : ∀ b o, b ∉ ch -> s.heap.get? b = some o -> ∃ o', h'.get? b = some o')
  (tups : ∀ b xs, H b = some (.tup xs) -> H' b = some (.tup xs)) (frzs : ∀ b o u, H b = some (.frz o u) -> H' b = some (.frz o u)) (tbls : ∀ b ps, H b = some (.tbl ps) -> ∃ more, H' b = some (.tbl (ps ++ more)))
  (ns : ∀ m, s.heap.Ns X.env.locals m -> h'.Ns X.env.locals m) (hok : HOk X.prog X.w H' h') (hg : AllBare g') :
  Inv X pins σ H' { s with heap := h', gens := g', drawn := d', toks := t' } := by
 have neL : ∀ b o, X.s₀.heap.get? b = some o -> b ≠ X.env.locals := fun b o e => Nat.ne_of_lt (Nat.lt_of_lt_of_le (Heap.lt_size e) I.ok.above)
 have neC : ∀ b o, X.s₀.heap.get? b = some o -> b ∉ X.ex -> b ∉ ch := fun b o e hx hb => by
  rcases (hch b hb).1 with z | z
  ·exact hx z
  ·exact absurd (Nat.lt_of_lt_of_le (Heap.lt_size e) z) (Nat.lt_irrefl _)
 have cellK : ∀ x c, X.env.cells.lookup x = some c -> ∀ v, s.heap.IsCell c v -> h'.IsCell c v := fun x c e v ⟨o, ho, hd⟩ => by
  have nch : c ∉ ch := fun z => (hch c z).2.2.1 x c e rfl
  by_cases hc : c ∈ X.fs
  ·obtain ⟨sl, q⟩ := slot c o (I.cne x c e) hc nch ho (I.freeC x c e)
   exact ⟨_, q, hd⟩
  ·exact ⟨o, keep c o (I.cne x c e) hc nch ho (I.freeC x c e), hd⟩
 refine ⟨I.ok, I.os, hg, ⟨fun b o e n hb hx => ?_, fun b o e n hb hx => ?_, fun b o e n hx => ?_, fun b o e hx => ?_, fun b xs e => tups b xs (I.base.tups b xs e), fun b o xs e => frzs b o xs (I.base.frzs b o xs e), fun b ps e => ?_⟩, ?_, fun x c e => ?_, ?_, fun x c e => ?_, fun p hp => ?_, hok, I.len⟩
 ·exact keep b o (neL b o e) hb (neC b o e hx) (I.base.keep b o e n hb hx) (I.base.free b o e n hx)
 ·obtain ⟨sl, e1⟩ := I.base.slot b o e n hb hx
  obtain ⟨sl', e2⟩ := slot b _ (neL b o e) hb (neC b o e hx) e1 (I.base.free b o e n hx)
  exact ⟨sl', e2⟩
 ·obtain ⟨o', e1⟩ := I.base.there b o e hx
  exact free b o' (neC b o e hx) e1 (I.base.free b o e n hx)
 ·obtain ⟨o', e1⟩ := I.base.there b o e hx
  exact there b o' (neC b o e hx) e1
 ·obtain ⟨m1, e1⟩ := I.base.tbls b ps e
  obtain ⟨m2, e2⟩ := tbls b _ e1
  exact ⟨m1 ++ m2, by rw [e2, Array.append_assoc]⟩
 ·obtain ⟨m, hn, hl⟩ := I.loc
  refine ⟨m, ns m hn, fun i x v e1 e2 e3 => ?_⟩
  obtain ⟨u, r, l⟩ := hl i x v e1 e2 e3
  refine ⟨u, r, ?_⟩
  rcases l with l | ⟨k, c, e, z⟩
  ·exact .inl l
  ·exact .inr ⟨k, c, e, cellK x c e _ z⟩
 ·obtain ⟨v, z⟩ := I.cell x c e
  exact ⟨v, cellK x c e v z⟩
 ·obtain ⟨m, ⟨o, _, _, ho, _⟩, _⟩ := I.loc
  exact free _ o (fun z => (hch _ z).2.1 rfl) ho I.free
 ·obtain ⟨v, o, ho, hd⟩ := I.cell x c e
  exact free c o (fun z => (hch c z).2.2.1 x c e rfl) ho (I.freeC x c e)
 ·obtain ⟨e, n, ne, nf, d⟩ := I.pin p hp
  have nch : p.1 ∉ ch := fun z => (hch p.1 z).2.2.2 p hp rfl
  exact ⟨keep p.1 p.2 ne nf nch e n, free p.1 p.2 nch e n, ne, nf, d⟩
theorem Inv.un {t' : Nat} (I : Inv X pins σ H s) (u : Un X.fs [] H H' s.heap h') (hok : HOk X.prog X.w H' h') : Inv X pins σ H' { s with heap := h', toks := t' } := by
 obtain ⟨m, ⟨o, es, ep, ho, r⟩, _⟩ := id I.loc
 obtain ⟨sl, hL⟩ := u.any ho I.free (by simp)
 exact I.step (g' := s.gens) (d' := s.drawn) (ch := []) (fun _ z => nomatch z) (fun b o _ hb _ e n => u.keep b o e n hb (by simp)) (fun b o _ hb _ e n => u.slot b o e n hb (by simp)) (fun b o _ e n => u.free b o e n (by simp)) (fun b o _ e => u.there b o e (by simp)) u.tups u.frzs u.tbls (fun m' hm => by
  obtain ⟨o', es', ep', ho', r'⟩ := hm
  rw [ho] at ho'; cases ho'
  exact ⟨_, es', ep', hL, r'⟩) hok I.bare
theorem Inv.call {g' : Array GenState} {t' : Nat} {d' : Drawn} {ch : List Addr} (I : Inv X pins σ H s) (u : Un (frs X.stack) ch H H' s.heap h') (hok : HOk X.prog X.w H' h') (hg : AllBare g')
  (hch : ∀ b ∈ ch, (b ∈ X.ex \/ X.s₀.heap.objs.size <= b) /\ b ≠ X.env.locals /\ (∀ x c, X.env.cells.lookup x = some c -> c ≠ b) /\ ∀ p ∈ X.pn ++ pins, p.1 ≠ b) :
  Inv X pins σ H' { s with heap := h', gens := g', drawn := d', toks := t' } := by
 obtain ⟨m, ⟨o, es, ep, ho, r⟩, _⟩ := id I.loc
 obtain ⟨sl, hL⟩ := u.any ho I.free fun z => (hch _ z).2.1 rfl
 exact I.step (ch := ch) hch (fun b o hL hb hc e n => u.keep b o e n (fun z => (List.mem_cons.mp (I.stkSub b z)).elim hL hb) hc) (fun b o _ _ hc e n => u.any e n hc) (fun b o hc e n => u.free b o e n hc) (fun b o hc e => u.there b o e hc) u.tups u.frzs u.tbls (fun m' hm => by
  obtain ⟨o', es', ep', ho', r'⟩ := hm
  rw [ho] at ho'; cases ho'
  exact ⟨_, es', ep', hL, r'⟩) hok hg
theorem Inv.turned {t' : Nat} {it : Addr} (I : Inv X pins σ H s) (k : ∀ b o, b ≠ it -> s.heap.get? b = some o -> h'.get? b = some o) (hn : H it = none) (hL : it ≠ X.env.locals)
  (h1 : it ∈ X.ex \/ X.s₀.heap.objs.size <= it) (h2 : ∀ x c, X.env.cells.lookup x = some c -> c ≠ it) (h3 : ∀ p ∈ X.pn ++ pins, p.1 ≠ it) : Inv X pins σ H { s with heap := h', toks := t' } := by
 have nit : ∀ b u, H b = some u -> b ≠ it := fun b u e z => by rw [z, hn] at e; cases e
 refine I.step (g' := s.gens) (d' := s.drawn) (ch := [it]) (fun b hb => ?_) (fun b o _ _ hc e _ => k b o (fun z => hc (by simp [z])) e) (fun b o _ _ hc e _ => ⟨o.slots, k b o (fun z => hc (by simp [z])) e⟩) (fun _ _ _ _ n => n)
  (fun b o hc e => ⟨o, k b o (fun z => hc (by simp [z])) e⟩) (fun _ _ e => e) (fun _ _ _ e => e) (fun b ps e => ⟨#[], by rw [e]; simp⟩) (fun m hm => ?_) (fun b u e => ?_) I.bare
 ·have e : b = it := by simpa using hb
  subst e
  exact ⟨h1, hL, h2, h3⟩
 ·obtain ⟨o, es, ep, ho, r⟩ := hm
  exact ⟨o, es, ep, k _ o (Ne.symm hL) ho, r⟩
 ·refine (I.hok b u e).stay (fun c v hc q => k c v ?_ q) (fun _ q => q) fun _ _ q => q
  rcases hc with z | z
  ·rw [z]; exact nit b u e
  ·exact nit c _ z
theorem Inv.tok (I : Inv X pins σ H s) (t : Nat) : Inv X pins σ H { s with toks := t } := I.un (h' := s.heap) (t' := t) Un.refl I.hok
theorem Inv.kept {t' : Nat} (I : Inv X pins σ H s) (k : ∀ b u, s.heap.get? b = some u -> h'.get? b = some u) : Inv X pins σ H { s with heap := h', toks := t' } := I.un (Un.kept k) (I.hok.kept k)
theorem Inv.laid {a : Addr} {o : HO} {t' : Nat} (I : Inv X pins σ H s) (k : ∀ b u, s.heap.get? b = some u -> h'.get? b = some u) (hp : s.heap.objs.size <= a) (new : ObjOk X.prog X.w (upd H a o) h' a o) :
  Inv X pins σ (upd H a o) { s with heap := h', toks := t' } := I.un (Un.laid k hp (I.hok.fresh hp)) (I.hok.laid k hp new)
theorem Inv.write {x e : Addr} {o : HO} {t' : Nat} (I : Inv X pins σ H s) (mu : Mut (H x)) (he : e = x \/ H e = some (.own x)) (k : ∀ b u, b ≠ e -> s.heap.get? b = some u -> h'.get? b = some u) (heo : ∃ u, h'.get? e = some u)
  (new : ObjOk X.prog X.w (upd H x o) h' x o) : Inv X pins σ (upd H x o) { s with heap := h', toks := t' } := I.un (Un.write mu he k heo) (I.hok.write mu he k heo new)
theorem Inv.pins_of {pins' : List (Addr × Obj)} (I : Inv X pins σ H s) (h : ∀ p ∈ pins', s.heap.get? p.1 = some p.2 /\ H p.1 = none /\ p.1 ≠ X.env.locals /\ p.1 ∉ X.fs /\ ∀ v, p.2.data ≠ .cell v) : Inv X pins' σ H s :=
 ⟨I.ok, I.os, I.bare, I.base, I.loc, I.cell, I.free, I.freeC, fun p hp => (List.mem_append.mp hp).elim (fun z => I.pin p (List.mem_append_left _ z)) (h p), I.hok, I.len⟩
theorem nodup_ix {N : List Str} (hN : N.Nodup) {i j : Nat} {x : Str} (a : N[i]? = some x) (b : N[j]? = some x) : i = j := by
 obtain ⟨h1, e1⟩ := List.getElem?_eq_some_iff.mp a
 obtain ⟨h2, e2⟩ := List.getElem?_eq_some_iff.mp b
 exact (List.getElem_inj hN).mp (e1.trans e2.symm)
theorem store_ok2 {M : Model} {A : Around} {E : Value -> Shared -> Prop} {i : Nat} {x : Str} {v : V} {u : Value} {Q : Unit -> Shared -> Prop} (I : Inv X pins σ H s) (hN : X.N.Nodup) (hi : X.N[i]? = some x) (hx : Loc X.env.scope x) (r : RelV v u)
  (h : ∀ s', Inv X pins (σ.set i (some v)) H s' -> (∃ a, Heap.SameBut a s.heap s'.heap /\ (a = X.env.locals \/ X.env.cells.lookup x = some a)) -> Q () s') (hf : X.fn x = true \/ X.env.scope.names.lookup x = some .local := by first | exact .inl rfl | exact .inr rfl | assumption) : wpAny M A (storeName X.env x u) Q E s := by
 obtain ⟨m, hn, hl⟩ := id I.loc
 have hcls : (X.env.scope.kind == .class || (X.env.scope.kind == .module && X.env.locals != X.env.globals)) = false := by rw [I.ok.kind]; rfl
 have hiσ : i < σ.length := by rw [I.len]; exact (List.getElem?_eq_some_iff.mp hi).1
 have cne := I.cne
 have tracked : ∀ {a : Addr} {h' : Heap}, (∃ o, s.heap.get? a = some o /\ H a = none) -> Heap.SameBut a s.heap h' -> HOk X.prog X.w H h' := fun {a h'} ha hs b ob e => by
  obtain ⟨_, _, hfree⟩ := ha
  refine (I.hok b ob e).stay (fun c w' hc q => (hs.2 c ?_).trans q) (fun _ q => q) fun _ _ q => q
  rintro rfl
  rcases hc with rfl | hc
  ·rw [hfree] at e; cases e
  ·rw [hfree] at hc; cases hc
 rcases hx with hk | hk
 ·refine wpAny_storeName_local hk hn (fun h' hn' hs => ?_) hcls
  obtain ⟨oL, _, _, hoL, _⟩ := id hn
  refine h _ ⟨I.ok, I.os, I.bare, ⟨fun b o e n hb hx => ?_, fun b o e n hb hx => ?_, I.base.free, fun b o e hx => ?_, I.base.tups, I.base.frzs, I.base.tbls⟩, ⟨_, hn', fun j y v' e1 e2 e3 => ?_⟩, fun y c e => ?_, I.free, I.freeC, fun p hp => ?_, tracked ⟨oL, hoL, I.free⟩ hs, by simpa using I.len⟩ ⟨_, hs, .inl rfl⟩
  ·exact (hs.2 b (Nat.ne_of_lt (Nat.lt_of_lt_of_le (Heap.lt_size e) I.ok.above))).trans (I.base.keep b o e n hb hx)
  ·obtain ⟨sl, e1⟩ := I.base.slot b o e n hb hx
   exact ⟨sl, (hs.2 b (Nat.ne_of_lt (Nat.lt_of_lt_of_le (Heap.lt_size e) I.ok.above))).trans e1⟩
  ·obtain ⟨o', e1⟩ := I.base.there b o e hx
   exact ⟨o', (hs.2 b (Nat.ne_of_lt (Nat.lt_of_lt_of_le (Heap.lt_size e) I.ok.above))).trans e1⟩
  ·by_cases hj : j = i
   ·subst hj
    rw [hi] at e1; cases e1
    rw [List.getElem?_set_self hiσ] at e2
    cases e2
    exact ⟨u, r, .inl ⟨hk, by simp⟩⟩
   ·rw [List.getElem?_set_ne (Ne.symm hj)] at e2
    obtain ⟨u', r', q⟩ := hl j y v' e1 e2 e3
    refine ⟨u', r', ?_⟩
    rcases q with ⟨k, e⟩ | ⟨k, c, e, z⟩
    ·refine .inl ⟨k, ?_⟩
     have : y ≠ x := fun e => hj (nodup_ix hN e1 (e ▸ hi))
     simp [this, e]
    ·exact .inr ⟨k, c, e, z.sameBut hs (cne y c e)⟩
  ·obtain ⟨w', z⟩ := I.cell y c e
   exact ⟨w', z.sameBut hs (cne y c e)⟩
  ·obtain ⟨e, n, ne, nf, d⟩ := I.pin p hp
   exact ⟨(hs.2 p.1 ne).trans e, n, ne, nf, d⟩
 ·have hfn : X.fn x = true := by
   rcases hf with z | z
   ·exact z
   ·rw [z] at hk; cases hk
  obtain ⟨c, hc⟩ := I.ok.has x (.inl hk)
  obtain ⟨w', z⟩ := I.cell x c hc
  refine wpAny_storeName_cell I.ok.kind hk hc z (fun h' hc' hs => ?_)
  obtain ⟨oc, hoc, hocd⟩ := id z
  refine h { s with heap := h' } ⟨I.ok, I.os, I.bare, ⟨fun b o e n hb hx => ?_, fun b o e n hb hx => ?_, I.base.free, fun b o e hx => ?_, I.base.tups, I.base.frzs, I.base.tbls⟩, ⟨m, hn.sameBut hs (Ne.symm (cne x c hc)), fun j y v' e1 e2 e3 => ?_⟩, fun y c' e => ?_, I.free, I.freeC, fun p hp => ?_, tracked ⟨oc, hoc, I.freeC x c hc⟩ hs, by simpa using I.len⟩ ⟨c, hs, .inr hc⟩
  ·exact (hs.2 b (Nat.ne_of_lt (Nat.lt_of_lt_of_le (Heap.lt_size e) (I.ok.cab x c hfn hc)))).trans (I.base.keep b o e n hb hx)
  ·obtain ⟨sl, e1⟩ := I.base.slot b o e n hb hx
   exact ⟨sl, (hs.2 b (Nat.ne_of_lt (Nat.lt_of_lt_of_le (Heap.lt_size e) (I.ok.cab x c hfn hc)))).trans e1⟩
  ·obtain ⟨o', e1⟩ := I.base.there b o e hx
   exact ⟨o', (hs.2 b (Nat.ne_of_lt (Nat.lt_of_lt_of_le (Heap.lt_size e) (I.ok.cab x c hfn hc)))).trans e1⟩
  ·by_cases hj : j = i
   ·subst hj
    rw [hi] at e1; cases e1
    rw [List.getElem?_set_self hiσ] at e2
    cases e2
    exact ⟨u, r, .inr ⟨.inl hk, c, hc, hc'⟩⟩
   ·rw [List.getElem?_set_ne (Ne.symm hj)] at e2
    obtain ⟨u', r', q⟩ := hl j y v' e1 e2 e3
    refine ⟨u', r', ?_⟩
    rcases q with q | ⟨k, c', e, z'⟩
    ·exact .inl q
    ·refine .inr ⟨k, c', e, z'.sameBut hs ?_⟩
     rintro rfl
     exact hj (nodup_ix hN e1 (I.ok.inj _ _ _ e hc ▸ hi))
  ·by_cases hcc : c' = c
   ·subst hcc; exact ⟨_, hc'⟩
   ·obtain ⟨w2, z2⟩ := I.cell y c' e
    exact ⟨w2, z2.sameBut hs hcc⟩
  ·obtain ⟨e, n, ne, nf, d⟩ := I.pin p hp
   refine ⟨(hs.2 p.1 ?_).trans e, n, ne, nf, d⟩
   intro q
   rw [q, hoc] at e
   have q' : oc = p.2 := Option.some.inj e
   exact d w' (by rw [← q']; exact hocd)
theorem store_ok {M : Model} {A : Around} {E : Value -> Shared -> Prop} {i : Nat} {x : Str} {v : V} {u : Value} {Q : Unit -> Shared -> Prop} (I : Inv X pins σ H s) (hN : X.N.Nodup) (hi : X.N[i]? = some x) (hx : Loc X.env.scope x) (r : RelV v u)
  (h : ∀ s', Inv X pins (σ.set i (some v)) H s' -> Q () s') (hf : X.fn x = true \/ X.env.scope.names.lookup x = some .local := by first | exact .inl rfl | exact .inr rfl | assumption) : wpAny M A (storeName X.env x u) Q E s :=
 store_ok2 I hN hi hx r (fun s' I' _ => h s' I') hf
theorem Inv.call' {s' : Shared} {ch : List Addr} (I : Inv X pins σ H s) (ho : s'.os = s.os) (u : Un (frs X.stack) ch H H' s.heap s'.heap) (hok : HOk X.prog X.w H' s'.heap) (hg : AllBare s'.gens)
  (hch : ∀ b ∈ ch, (b ∈ X.ex \/ X.s₀.heap.objs.size <= b) /\ b ≠ X.env.locals /\ (∀ x c, X.env.cells.lookup x = some c -> c ≠ b) /\ ∀ p ∈ X.pn ++ pins, p.1 ≠ b) : Inv X pins σ H' s' := by
 obtain ⟨h', g', d', t', o'⟩ := s'
 have e : o' = s.os := ho
 subst e
 exact I.call (g' := g') (t' := t') (d' := d') u hok hg hch
end
abbrev XK := Value -> Option Addr -> Hp -> Prop
abbrev St := List (Option V)
abbrev VK := V -> Hp -> Prop
abbrev TE := St -> Hp -> VK -> Prop
abbrev TT := St -> Hp -> (Bool -> Hp -> Prop) -> Prop
abbrev TA := St -> Hp -> (List V -> Hp -> Prop) -> Prop
structure Ends where
 nx : St -> Hp -> Prop
 rt : VK
 bk : St -> Hp -> Prop := fun _ _ => False
 ct : St -> Hp -> Prop := fun _ _ => False
abbrev TS := Ends -> St -> Hp -> Prop
noncomputable def EP (X : Cx) (pins : List (Addr × Obj)) (σ : St) (Q : VK) (u : Value) (s' : Shared) : Prop := ∃ v H', Inv X pins σ H' s' /\ RelV v u /\ Q v H'
noncomputable def TP (X : Cx) (pins : List (Addr × Obj)) (σ : St) (Q : Bool -> Hp -> Prop) (b : Bool) (s' : Shared) : Prop := ∃ H', Inv X pins σ H' s' /\ Q b H'
noncomputable def AP (X : Cx) (pins : List (Addr × Obj)) (σ : St) (Q : List V -> Hp -> Prop) (us : List Value) (s' : Shared) : Prop := ∃ vs H', Inv X pins σ H' s' /\ Vals vs us /\ Q vs H'
noncomputable def SP (X : Cx) (pins : List (Addr × Obj)) (D : Ends) (f : Flow) (s' : Shared) : Prop :=
 match f with
 | .next => ∃ σ' H', Inv X pins σ' H' s' /\ D.nx σ' H'
 | .brk => ∃ σ' H', Inv X pins σ' H' s' /\ D.bk σ' H'
 | .cont => ∃ σ' H', Inv X pins σ' H' s' /\ D.ct σ' H'
 | .ret u => ∃ v σ' H', Inv X pins σ' H' s' /\ RelV v u /\ D.rt v H'
structure PE (X : Cx) (e : Expr) (t : TE) : Prop where
 run : ∀ (pins : List (Addr × Obj)) (s : Shared) (σ : St) (H : Hp) (Q : VK), Inv X pins σ H s -> t σ H Q -> wpAny (model X.prog X.w) X.A (eval e X.env) (EP X pins σ Q) X.xe s
instance {X : Cx} {e : Expr} {t : TE} : CoeFun (PE X e t) fun _ => ∀ (pins : List (Addr × Obj)) (s : Shared) (σ : St) (H : Hp) (Q : VK), Inv X pins σ H s -> t σ H Q -> wpAny (model X.prog X.w) X.A (eval e X.env) (EP X pins σ Q) X.xe s := ⟨PE.run⟩
structure PT (X : Cx) (e : Expr) (t : TT) : Prop where
 run : ∀ (pins : List (Addr × Obj)) (s : Shared) (σ : St) (H : Hp) (Q : Bool -> Hp -> Prop), Inv X pins σ H s -> t σ H Q -> wpAny (model X.prog X.w) X.A (isTrue e X.env (eval e X.env)) (TP X pins σ Q) X.xe s
instance {X : Cx} {e : Expr} {t : TT} : CoeFun (PT X e t) fun _ => ∀ (pins : List (Addr × Obj)) (s : Shared) (σ : St) (H : Hp) (Q : Bool -> Hp -> Prop), Inv X pins σ H s -> t σ H Q -> wpAny (model X.prog X.w) X.A (isTrue e X.env (eval e X.env)) (TP X pins σ Q) X.xe s := ⟨PT.run⟩
structure PW (X : Cx) (e : Expr) (t : TT) : Prop where
 run : ∀ (whole : Sem Value) (pins : List (Addr × Obj)) (s : Shared) (σ : St) (H : Hp) (Q : Bool -> Hp -> Prop), Inv X pins σ H s -> t σ H Q -> wpAny (model X.prog X.w) X.A (isTrue e X.env whole) (TP X pins σ Q) X.xe s
instance {X : Cx} {e : Expr} {t : TT} : CoeFun (PW X e t) fun _ => ∀ (whole : Sem Value) (pins : List (Addr × Obj)) (s : Shared) (σ : St) (H : Hp) (Q : Bool -> Hp -> Prop), Inv X pins σ H s -> t σ H Q -> wpAny (model X.prog X.w) X.A (isTrue e X.env whole) (TP X pins σ Q) X.xe s := ⟨PW.run⟩
theorem PW.pt {X : Cx} {e : Expr} {t : TT} (h : PW X e t) : PT X e t := ⟨h _⟩
structure PA (X : Cx) (es : List Expr) (t : TA) : Prop where
 run : ∀ (pos : Pos) (pins : List (Addr × Obj)) (s : Shared) (σ : St) (H : Hp) (Q : List V -> Hp -> Prop), Inv X pins σ H s -> t σ H Q -> wpAny (model X.prog X.w) X.A (spliced (backTo pos (starEach es X.env))) (AP X pins σ Q) X.xe s
instance {X : Cx} {es : List Expr} {t : TA} : CoeFun (PA X es t) fun _ => ∀ (pos : Pos) (pins : List (Addr × Obj)) (s : Shared) (σ : St) (H : Hp) (Q : List V -> Hp -> Prop), Inv X pins σ H s -> t σ H Q -> wpAny (model X.prog X.w) X.A (spliced (backTo pos (starEach es X.env))) (AP X pins σ Q) X.xe s := ⟨PA.run⟩
structure PS (X : Cx) (st : Stmt) (t : TS) : Prop where
 run : ∀ (pins : List (Addr × Obj)) (s : Shared) (σ : St) (H : Hp) (D : Ends), Inv X pins σ H s -> t D σ H -> wpAny (model X.prog X.w) X.A (exec st X.env) (SP X pins D) X.xe s
instance {X : Cx} {st : Stmt} {t : TS} : CoeFun (PS X st t) fun _ => ∀ (pins : List (Addr × Obj)) (s : Shared) (σ : St) (H : Hp) (D : Ends), Inv X pins σ H s -> t D σ H -> wpAny (model X.prog X.w) X.A (exec st X.env) (SP X pins D) X.xe s := ⟨PS.run⟩
structure PSs (X : Cx) (st : List Stmt) (t : TS) : Prop where
 run : ∀ (pins : List (Addr × Obj)) (s : Shared) (σ : St) (H : Hp) (D : Ends), Inv X pins σ H s -> t D σ H -> wpAny (model X.prog X.w) X.A (execs st X.env) (SP X pins D) X.xe s
instance {X : Cx} {st : List Stmt} {t : TS} : CoeFun (PSs X st t) fun _ => ∀ (pins : List (Addr × Obj)) (s : Shared) (σ : St) (H : Hp) (D : Ends), Inv X pins σ H s -> t D σ H -> wpAny (model X.prog X.w) X.A (execs st X.env) (SP X pins D) X.xe s := ⟨PSs.run⟩
theorem thn {α : Type} {t : Sem α} {Q Q' : α -> Shared -> Prop} {M : Model} {A : Around} {E : Value -> Shared -> Prop} {s : Shared} (h : wpAny M A t Q E s) (hQ : ∀ a s, Q a s -> Q' a s) : wpAny M A t Q' E s := wpAny_mono h hQ fun _ _ x => x
end L2
namespace L2
open PySem PySem.Spec PyProof.Rows
section
variable {X : Cx}
noncomputable def tVar (i : Nat) : TE := fun σ H Q => ∃ v, σ[i]? = some (some v) /\ Q v H
noncomputable def tC (v : V) : TE := fun _ H Q => Q v H
theorem pe_var {i : Nat} {x : Str} {pos : Pos} (hN : X.N[i]? = some x) (hv : Vis X.env.scope x) (hd : (x == ("__debug__" : Str)) = false := by decide) (hcd : (x == ("__classdict__" : Str)) = false := by decide) : PE X (.Name x pos) (tVar i) := by
 (first | refine ⟨?_⟩ | skip); intro pins s σ H Q I h
 obtain ⟨v, e, h⟩ := h
 obtain ⟨m, hn, hl⟩ := I.loc
 obtain ⟨u, r, l⟩ := hl i x v hN e hv
 have fin : EP X pins σ Q u s := ⟨v, H, I, r, h⟩
 rcases l with ⟨hk, hm⟩ | ⟨hk, c, hc, hcell⟩
 ·exact wpAny_Name (wpAny_loadName_local I.ok.kind hk hn hm fin) hd
 ·rcases hk with hk | hk
  ·exact wpAny_Name (wpAny_loadName_cell I.ok.kind hk hc hcell fin) hd
  ·exact wpAny_Name (wpAny_loadName_free I.ok.kind hk hc hcell fin hcd) hd
theorem pe_int {i j pos} : PE X (.Constant (.int i) j pos) (tC (.int i)) := .mk <| fun _ _ _ H _ I h => wpAny_Constant_int ⟨.int i, H, I.tok _, ⟨_, rfl⟩, h⟩
theorem pe_bl {b j pos} : PE X (.Constant (.bool b) j pos) (tC (.bl b)) := .mk <| fun _ _ _ H _ I h => Constant_bool ⟨.bl b, H, I, rfl, h⟩
theorem pe_non {j pos} : PE X (.Constant .none j pos) (tC .non) := .mk <| fun _ _ _ H _ I h => Constant_none ⟨.non, H, I, rfl, h⟩
theorem pe_str {x j pos} : PE X (.Constant (.str x) j pos) (tC (.str x)) := .mk <| fun _ _ _ H _ I h => Calls.Constant_str ⟨.str x, H, I.tok _, ⟨_, rfl⟩, h⟩
noncomputable def Gl (X : Cx) (x : Str) : Prop := X.env.kindOf x = some .globalImplicit
theorem ld_glob {E : Value -> Shared -> Prop} {pins : List (Addr × Obj)} {s : Shared} {σ : St} {H : Hp} {x : Str} {u : Value} {pos : Pos} {Q : Value -> Shared -> Prop} (I : Inv X pins σ H s) (hg : Gl X x) (hm : X.mg x = some u) (h : Q u s)
  (hd : (x == ("__debug__" : Str)) = false := by decide) : wpAny (model X.prog X.w) X.A (eval (.Name x pos) X.env) Q E s :=
 Calls.Name_function_global I.ok.kind hg (Calls.loadGlobal_global (by rw [I.ok.glob]; exact I.mod.glob.keeps I.bk) hm h) hd
theorem ld_blt {E : Value -> Shared -> Prop} {pins : List (Addr × Obj)} {s : Shared} {σ : St} {H : Hp} {x : Str} {u : Value} {pos : Pos} {Q : Value -> Shared -> Prop} (I : Inv X pins σ H s) (hg : Gl X x) (hm : X.mg x = none) (hv : bootBuiltins x = some u) (h : Q u s)
  (hn : x ≠ "__name__" := by decide) (hd : (x == ("__debug__" : Str)) = false := by decide) : wpAny (model X.prog X.w) X.A (eval (.Name x pos) X.env) Q E s := by
 obtain ⟨mb, h1, h2⟩ := I.mod.blt
 exact Calls.Name_function_global I.ok.kind hg (Calls.loadGlobal_builtin (by rw [I.ok.glob]; exact I.mod.glob.keeps I.bk) hm (by rw [I.ok.blt]; exact h1.keeps I.bk) ((h2 x hn).trans hv) h) hd
theorem pe_glob {x : Str} {v : V} {u : Value} {pos : Pos} (hg : Gl X x) (hm : X.mg x = some u) (r : RelV v u) (hd : (x == ("__debug__" : Str)) = false := by decide) : PE X (.Name x pos) (tC v) :=
 .mk <| fun _ _ _ H _ I h => ld_glob I hg hm ⟨v, H, I, r, h⟩ hd
theorem pe_bltn {x : Str} {v : V} {u : Value} {pos : Pos} (hg : Gl X x) (hm : X.mg x = none) (hv : bootBuiltins x = some u) (r : RelV v u) (hn : x ≠ "__name__" := by decide) (hd : (x == ("__debug__" : Str)) = false := by decide) : PE X (.Name x pos) (tC v) :=
 .mk <| fun _ _ _ H _ I h => ld_blt I hg hm hv ⟨v, H, I, r, h⟩ hn hd
variable {a b : Expr} {ta tb : TE} {pos : Pos}
variable {tA tB' : TT} {rest : List Expr}
noncomputable def tAnd (t u : TT) : TT := fun σ H Q => t σ H fun c H1 => if c = true then u σ H1 Q else Q false H1
noncomputable def tOr (t u : TT) : TT := fun σ H Q => t σ H fun c H1 => if c = true then Q true H1 else u σ H1 Q
noncomputable def tNot (t : TT) : TT := fun σ H Q => t σ H fun c H1 => Q (!c) H1
theorem pw_and1 (ha : PT X a tA) : PW X (.BoolOp .And [a] pos) tA := by
 (first | refine ⟨?_⟩ | skip); intro wh pins s σ H Q I h
 refine isTrue_and (thn (ha pins s σ H Q I h) fun c s1 e => ?_)
 cases c with
 | true => exact isTrue_and_nil e
 | false => exact e
theorem pw_or1 (ha : PT X a tA) : PW X (.BoolOp .Or [a] pos) tA := by
 (first | refine ⟨?_⟩ | skip); intro wh pins s σ H Q I h
 refine isTrue_or (thn (ha pins s σ H Q I h) fun c s1 e => ?_)
 cases c with
 | false => exact isTrue_or_nil e
 | true => exact e
theorem pw_and (ha : PT X a tA) (hb : PW X (.BoolOp .And (b :: rest) pos) tB') : PW X (.BoolOp .And (a :: b :: rest) pos) (tAnd tA tB') := by
 (first | refine ⟨?_⟩ | skip); intro wh pins s σ H Q I h
 refine isTrue_and (thn (ha pins s σ H _ I h) fun c s1 ⟨H1, I1, q1⟩ => ?_)
 cases c with
 | true => exact hb wh pins s1 σ H1 Q I1 q1
 | false => exact ⟨H1, I1, q1⟩
theorem pw_or (ha : PT X a tA) (hb : PW X (.BoolOp .Or (b :: rest) pos) tB') : PW X (.BoolOp .Or (a :: b :: rest) pos) (tOr tA tB') := by
 (first | refine ⟨?_⟩ | skip); intro wh pins s σ H Q I h
 refine isTrue_or (thn (ha pins s σ H _ I h) fun c s1 ⟨H1, I1, q1⟩ => ?_)
 cases c with
 | true => exact ⟨H1, I1, q1⟩
 | false => exact hb wh pins s1 σ H1 Q I1 q1
theorem pt_not (ha : PT X a tA) : PT X (.UnaryOp .Not a pos) (tNot tA) := by
 (first | refine ⟨?_⟩ | skip); intro pins s σ H Q I h
 exact isTrue_not (ha pins s σ H (fun c H1 => Q (!c) H1) I h)
noncomputable def tAndV (ta tb : TE) : TE := fun σ H Q => ta σ H fun x H1 => ∃ c, x = .bl c /\ if c = true then tb σ H1 Q else Q (.bl false) H1
theorem pe_one {op} {t : TE} (h : PE X a t) : PE X (.BoolOp op [a] pos) t := .mk <| fun pins s σ H Q I hw => BoolOp_one (h pins s σ H Q I hw)
theorem pe_and (ha : PE X a ta) (hb : PE X (.BoolOp .And (b :: rest) pos) tb) : PE X (.BoolOp .And (a :: b :: rest) pos) (tAndV ta tb) := by
 (first | refine ⟨?_⟩ | skip); intro pins s σ H Q I h
 refine BoolOp_and (thn (ha pins s σ H _ I h) fun v s1 ⟨x, H1, I1, r1, q1⟩ => ?_)
 obtain ⟨c, rfl, q1⟩ := q1
 cases r1
 refine wpAny_truthy_bool ?_
 cases c with
 | true => exact hb pins s1 σ H1 Q I1 q1
 | false => exact ⟨.bl false, H1, I1, rfl, q1⟩
end
end L2
namespace L2
open PySem PySem.Spec PyProof.Rows
noncomputable def SqL (K : PySem.W.Frag) (H : Hp) (a : Addr) (xs : List V) : Prop :=
 Rd H a (.lst xs) \/
  ∃ (o : Obj) (its : Array Value) (n : Nat), K.lookup a = some o /\ o.cls = .type "list" /\ o.dict = none /\ o.data = .seq its n /\ its.size <= sizeLine /\ Vals xs its.toList
noncomputable def SqT (K : PySem.W.Frag) (H : Hp) (a : Addr) (xs : List V) : Prop :=
 Rd H a (.tup xs) \/
  ∃ (o : Obj) (its : Array Value) (n : Nat), K.lookup a = some o /\ o.cls = .type "tuple" /\ o.data = .seq its n /\ its.size <= sizeLine /\ Vals xs its.toList
noncomputable def absV : Value -> Option V
 | .none => some .non
 | .bool b => some (.bl b)
 | .int i _ => some (.int i)
 | .str x _ => some (.str x)
 | .bytes b _ => some (.byt b)
 | .float b _ => some (.flt b)
 | .ref a => some (.ref a)
 | .type n => some (.ty n)
 | _ => none
theorem RelV.abs {x : V} {u : Value} (r : RelV x u) : absV u = some x := by
 cases x with
 | non => cases r; rfl
 | bl _ => cases r; rfl
 | int _ => obtain ⟨t, rfl⟩ := r; rfl
 | str _ => obtain ⟨t, rfl⟩ := r; rfl
 | byt _ => obtain ⟨t, rfl⟩ := r; rfl
 | flt _ => obtain ⟨t, rfl⟩ := r; rfl
 | ref _ => cases r; rfl
 | ty _ => cases r; rfl
theorem RelV.inj {x y : V} {u : Value} (r : RelV x u) (q : RelV y u) : x = y := Option.some.inj (r.abs.symm.trans q.abs)
theorem Vals.inj : ∀ {xs ys : List V} {us : List Value}, Vals xs us -> Vals ys us -> xs = ys
 | _, _, _, .nil, .nil => rfl
 | _, _, _, .cons r t, .cons r' t' => by rw [r.inj r', Vals.inj t t']
section
variable {X : Cx} {pins : List (Addr × Obj)} {σ : St} {H : Hp} {s : Shared} {a : Addr} {xs ys : List V}
theorem SqL.of {K : PySem.W.Frag} (h : H a = some (.lst xs)) : SqL K H a xs := .inl (.inl h)
theorem SqT.of {K : PySem.W.Frag} (h : H a = some (.tup xs)) : SqT K H a xs := .inl (.inl h)
theorem Inv.list (I : Inv X pins σ H s) (h : SqL X.K H a xs) : ∃ its : List Value, Vals xs its /\ PlainL s.heap a its.toArray /\ xs.length <= sizeLine := by
 rcases h with h | ⟨o, its, n, hk, hc, hd, hs, hz, r⟩
 ·obtain ⟨z, its, n, r, e⟩ := h.ok I.hok
  exact ⟨its, r, ⟨_, n, e, rfl, rfl, rfl⟩, z⟩
 ·refine ⟨its.toList, r, ⟨o, n, I.kIn a o hk, hc, hd, by simpa using hs⟩, ?_⟩
  have e := r.length
  simp only [Array.length_toList] at e
  omega
theorem Inv.tuple (I : Inv X pins σ H s) (h : SqT X.K H a xs) : ∃ its : List Value, Vals xs its /\ IsTup s.heap a its.toArray /\ xs.length <= sizeLine := by
 rcases h with h | ⟨o, its, n, hk, hc, hs, hz, r⟩
 ·obtain ⟨z, its, r, p⟩ := h.ok I.hok
  exact ⟨its, r, p.tup, z⟩
 ·refine ⟨its.toList, r, ⟨o, I.kIn a o hk, hc, n, by simpa using hs⟩, ?_⟩
  have e := r.length
  simp only [Array.length_toList] at e
  omega
theorem Inv.list_inj (I : Inv X pins σ H s) (h : SqL X.K H a xs) (h' : SqL X.K H a ys) : xs = ys := by
 obtain ⟨its, r, ⟨o, n, e, _, _, d⟩, _⟩ := I.list h
 obtain ⟨its', r', ⟨o', n', e', _, _, d'⟩, _⟩ := I.list h'
 rw [e] at e'; cases e'
 rw [d] at d'
 injection d' with d1 _
 have : its = its' := by simpa using congrArg Array.toList d1
 subst this
 exact r.inj r'
theorem Inv.tuple_inj (I : Inv X pins σ H s) (h : SqT X.K H a xs) (h' : SqT X.K H a ys) : xs = ys := by
 obtain ⟨its, r, ⟨o, e, _, n, d⟩, _⟩ := I.tuple h
 obtain ⟨its', r', ⟨o', e', _, n', d'⟩, _⟩ := I.tuple h'
 rw [e] at e'; cases e'
 rw [d] at d'
 injection d' with d1 _
 have : its = its' := by simpa using congrArg Array.toList d1
 subst this
 exact r.inj r'
end
abbrev Cx.wish (X : Cx) (E : Value -> Shared -> Prop) : Cx := { X with xe := E }
abbrev Cx.nox (X : Cx) : Cx := X.wish fun _ _ => False
theorem Cx.Ok.wish {X : Cx} (ok : X.Ok) (E : Value -> Shared -> Prop) : (X.wish E).Ok :=
 ⟨ok.mod, ok.kind, ok.glob, ok.blt, ok.above, ok.inj, ok.has, ok.cab, ok.hd, ok.frames, ok.stk, ok.exf, ok.bs, ok.bsz, ok.noex, ok.exfs, ok.funs, ok.frf⟩
theorem Cx.Ok.unwish {X : Cx} {E : Value -> Shared -> Prop} (ok : (X.wish E).Ok) : X.Ok :=
 ⟨ok.mod, ok.kind, ok.glob, ok.blt, ok.above, ok.inj, ok.has, ok.cab, ok.hd, ok.frames, ok.stk, ok.exf, ok.bs, ok.bsz, ok.noex, ok.exfs, ok.funs, ok.frf⟩
section
variable {X : Cx} {pins : List (Addr × Obj)} {σ : St} {H : Hp} {s : Shared} {E : Value -> Shared -> Prop}
theorem Inv.wish (I : Inv X pins σ H s) (E : Value -> Shared -> Prop) : Inv (X.wish E) pins σ H s := ⟨I.ok.wish E, I.os, I.bare, I.base, I.loc, I.cell, I.free, I.freeC, I.pin, I.hok, I.len⟩
theorem Inv.unwish (I : Inv (X.wish E) pins σ H s) : Inv X pins σ H s := ⟨I.ok.unwish, I.os, I.bare, I.base, I.loc, I.cell, I.free, I.freeC, I.pin, I.hok, I.len⟩
theorem SP.unwish {D : Ends} {f : Flow} {s' : Shared} (h : SP (X.wish E) pins D f s') : SP X pins D f s' := by
 cases f with
 | next => obtain ⟨σ', H', I, q⟩ := h; exact ⟨σ', H', I.unwish, q⟩
 | brk => obtain ⟨σ', H', I, q⟩ := h; exact ⟨σ', H', I.unwish, q⟩
 | cont => obtain ⟨σ', H', I, q⟩ := h; exact ⟨σ', H', I.unwish, q⟩
 | ret u => obtain ⟨v, σ', H', I, r, q⟩ := h; exact ⟨v, σ', H', I.unwish, r, q⟩
theorem PSs.nox {st : List Stmt} {t : TS} (h : PSs X.nox st t) : PSs X st t := .mk <| fun pins s σ H D I hw =>
 wpAny_mono (h pins s σ H D (I.wish _) hw) (fun _ _ q => q.unwish) fun _ _ z => False.elim z
end
section
variable {X : Cx} {st : Stmt} {rest : List Stmt} {t u : TS} {e : Expr} {te : TE} {pos : Pos}
noncomputable def tNext : TS := fun D σ H => D.nx σ H
noncomputable def tSeq (t u : TS) : TS := fun D σ H => t { D with nx := u D } σ H
theorem pss_nil : PSs X [] tNext := .mk <| fun _ _ σ H _ I h => wpAny_execs_nil ⟨σ, H, I, h⟩
theorem pss_cons (h1 : PS X st t) (h2 : PSs X rest u) : PSs X (st :: rest) (tSeq t u) := by
 (first | refine ⟨?_⟩ | skip); intro pins s σ H D I h
 refine wpAny_execs_cons (thn (h1 pins s σ H { D with nx := u D } I h) fun f s1 q => ?_)
 cases f with
 | next =>
  obtain ⟨σ', H', I', q⟩ := q
  exact h2 pins s1 σ' H' D I' q
 | ret v => exact q
 | brk => exact q
 | cont => exact q
theorem pss_one (h1 : PS X st t) : PSs X [st] t := by
 (first | refine ⟨?_⟩ | skip); intro pins s σ H D I h
 refine wpAny_execs_cons (thn (h1 pins s σ H D I h) fun f s1 q => ?_)
 cases f with
 | next => exact wpAny_execs_nil q
 | ret v => exact q
 | brk => exact q
 | cont => exact q
theorem Inv.quiet {pins : List (Addr × Obj)} {σ : St} {H : Hp} {s : Shared} (I : Inv X pins σ H s) : interactive X.env = false := by simp [interactive, I.ok.kind]
noncomputable def tDrop (te : TE) : TS := fun D σ H => te σ H fun _ H1 => D.nx σ H1
theorem ps_expr (he : PE X e te) (hs : swapsWith e none pos.line X.env = pure false := by rfl) : PS X (.Expr e pos) (tDrop te) := by
 (first | refine ⟨?_⟩ | skip); intro pins s σ H D I h
 exact wpAny_Expr_any (thn (he pins s σ H _ I h) fun v s1 ⟨x, H1, I1, r1, q1⟩ => ⟨σ, H1, I1, q1⟩) I.quiet hs
noncomputable def tRet (te : TE) : TS := fun D σ H => te σ H D.rt
theorem ps_ret (he : PE X e te) : PS X (.Return (some e) pos) (tRet te) := by
 (first | refine ⟨?_⟩ | skip); intro pins s σ H D I h
 exact wpAny_Return_some (thn (he pins s σ H _ I h) fun v s1 ⟨x, H1, I1, r1, q1⟩ => ⟨x, σ, H1, I1, r1, q1⟩)
noncomputable def tIfS (c : TT) (t u : TS) : TS := fun D σ H => c σ H fun b H1 => if b = true then t D σ H1 else u D σ H1
theorem ps_if {c : Expr} {a b : List Stmt} {tc : TT} (hc : PT X c tc) (ha : PSs X a t) (hb : PSs X b u) : PS X (.If c a b pos) (tIfS tc t u) := by
 (first | refine ⟨?_⟩ | skip); intro pins s σ H D I h
 refine wpAny_If (thn (hc pins s σ H _ I h) fun d s1 ⟨H1, I1, q1⟩ => ?_)
 cases d with
 | true => exact ha pins s1 σ H1 D I1 q1
 | false => exact hb pins s1 σ H1 D I1 q1
end
abbrev TG := V -> St -> Hp -> (St -> Hp -> Prop) -> Prop
abbrev TGs := List V -> St -> Hp -> (St -> Hp -> Prop) -> Prop
noncomputable def PG (X : Cx) (target : Expr) (t : TG) : Prop :=
 ∀ (pins : List (Addr × Obj)) (s : Shared) (σ : St) (H : Hp) (v : V) (u : Value) (Q : St -> Hp -> Prop), Inv X pins σ H s -> RelV v u -> t v σ H Q ->
  wpAny (model X.prog X.w) X.A (assign target X.env u) (fun _ s' => ∃ σ' H', Inv X pins σ' H' s' /\ Q σ' H') X.xe s
abbrev TSet := V -> V -> V -> Hp -> (Hp -> Prop) -> Prop
noncomputable def PSet (X : Cx) (t : TSet) : Prop :=
 ∀ (pins : List (Addr × Obj)) (s : Shared) (σ : St) (H : Hp) (o i v : V) (ov iv u : Value) (Q : Hp -> Prop), Inv X pins σ H s -> RelV o ov -> RelV i iv -> RelV v u -> t o i v H Q ->
  wpAny (model X.prog X.w) X.A (setItem ov iv u) (fun _ s' => ∃ H', Inv X pins σ H' s' /\ Q H') X.xe s
section
variable {X : Cx} {pos : Pos}
noncomputable def gName (i : Nat) : TG := fun v σ H Q => Q (σ.set i (some v)) H
theorem pg_name {i : Nat} {x : Str} (hN : X.N.Nodup) (hi : X.N[i]? = some x) (hx : Loc X.env.scope x) (hf : X.fn x = true \/ X.env.scope.names.lookup x = some .local := by first | exact .inl rfl | exact .inr rfl | assumption) : PG X (.Name x pos) (gName i) := by
 (first | refine ⟨?_⟩ | skip); intro pins s σ H v u Q I r h
 exact wpAny_assign_Name (store_ok I hN hi hx r (fun s' I' => ⟨_, H, I', h⟩) hf)
noncomputable def gNil : TGs := fun vs σ H Q => vs = [] /\ Q σ H
noncomputable def gCons (t : TG) (u : TGs) : TGs := fun vs σ H Q => ∃ v r, vs = v :: r /\ t v σ H fun σ' H' => u r σ' H' Q
noncomputable def gSub (to ti : TE) (t : TSet) : TG := fun v σ H Q => to σ H fun o H1 => ti σ H1 fun i H2 => t o i v H2 fun H3 => Q σ H3
theorem pg_sub {o i : Expr} {to ti : TE} {t : TSet} (ho : PE X o to) (hi : PE X i ti) (hs : PSet X t)
  (ha : ∀ v, assign (.Subscript o i pos) X.env v = (do
   let ov ← holding [v] (eval o X.env)
   let iv ← holding [v, ov] (eval i X.env)
   standAt pos
   holding [v, ov, iv] (setItem ov iv v)
   release [v, ov, iv] []) := by intro _; rfl) : PG X (.Subscript o i pos) (gSub to ti t) := by
 (first | refine ⟨?_⟩ | skip); intro pins s σ H v u Q I r h
 rw [ha]
 refine wpAny_bind (wpAny_holding (thn (ho pins s σ H _ I h) fun ov s1 ⟨x, H1, I1, r1, q1⟩ => ?_))
 refine wpAny_bind (wpAny_holding (thn (hi pins s1 σ H1 _ I1 q1) fun iv s2 ⟨y, H2, I2, r2, q2⟩ => ?_))
 refine wpAny_bind (wpAny_standAt (wpAny_bind (wpAny_holding (thn (hs pins s2 σ H2 x y v ov iv u _ I2 r1 r2 r q2) fun _ s3 ⟨H3, I3, q3⟩ => ?_))))
 exact wpAny_release ⟨σ, H3, I3, q3⟩
noncomputable def tAsg (te : TE) (g : TG) : TS := fun D σ H => te σ H fun x H1 => g x σ H1 D.nx
theorem ps_asg {tg e : Expr} {te : TE} {g : TG} (he : PE X e te) (hg : PG X tg g) (hs : swapsWithSole [tg] e pos.line X.env = pure false := by rfl) (hw : swappedStores [tg] e X.env = pure none := by rfl)
  (h1 : (assignEach [tg] X.env).map (·.2) = [assign tg X.env] := by rfl) : PS X (.Assign [tg] e pos) (tAsg te g) := by
 (first | refine ⟨?_⟩ | skip); intro pins s σ H D I h
 refine wpAny_Assign_stores (thn (he pins s σ H _ I h) fun v s1 ⟨x, H1, I1, r1, q1⟩ => ?_) hs hw
 rw [h1]
 exact thn (hg pins s1 σ H1 x v _ I1 r1 q1) fun _ s2 q => q
theorem ps_set {i : Nat} {x : Str} {e : Expr} {te : TE} {pos' : Pos} (hN : X.N.Nodup) (hi : X.N[i]? = some x) (hx : Loc X.env.scope x) (he : PE X e te) (hs : swapsWith e (some (.Name x pos')) pos.line X.env = pure false := by rfl) (hf : X.fn x = true \/ X.env.scope.names.lookup x = some .local := by first | exact .inl rfl | exact .inr rfl | assumption) :
  PS X (.Assign [.Name x pos'] e pos) (tAsg te (gName i)) := by
 (first | refine ⟨?_⟩ | skip); intro pins s σ H D I h
 refine wpAny_Assign_Name (thn (he pins s σ H _ I h) fun v s1 ⟨y, H1, I1, r1, q1⟩ => ?_) hs
 exact store_ok I1 hN hi hx r1 (fun s2 I2 => ⟨_, H1, I2, q1⟩) hf
end
structure It where
 go : Nat -> Hp -> Prop
 yld : Nat -> Hp -> V -> Hp -> Prop
 stop : Nat -> Hp -> Prop
noncomputable def FpOk (X : Cx) (pins : List (Addr × Obj)) (H : Hp) (b : Addr) : Prop :=
 H b = none /\ b ≠ X.env.locals /\ b ∉ X.fs /\ (b ∈ X.ex \/ X.s₀.heap.objs.size <= b) /\ (∀ x c, X.env.cells.lookup x = some c -> c ≠ b) /\ ∀ p ∈ X.pn ++ pins, p.1 ≠ b
theorem Inv.fpOk {X : Cx} {pins : List (Addr × Obj)} {σ : St} {H H' : Hp} {s : Shared} {b : Addr} (I : Inv X pins σ H s) (hb : s.heap.objs.size <= b) (hn : H' b = none) : FpOk X pins H' b := by
 refine ⟨hn, Nat.ne_of_gt (Nat.lt_of_lt_of_le I.lt hb), I.nofs hb, .inr (Nat.le_trans I.sz hb), fun x c e z => ?_, fun p hp z => ?_⟩
 ·obtain ⟨v, q⟩ := I.cell x c e
  exact absurd (Nat.lt_of_lt_of_le q.lt (by rw [z]; exact hb)) (Nat.lt_irrefl _)
 ·exact absurd (Nat.lt_of_lt_of_le (Heap.lt_size (I.pin p hp).1) (by rw [z]; exact hb)) (Nat.lt_irrefl _)
structure Turn (P : Program) (w : World) (K : PySem.W.Frag) (tg : Expr) (J : It) (fp : List Addr) (it : Addr) (tn : Nat -> Heap -> Prop) : Prop where
 mem : it ∈ fp
 obj : ∀ i h, tn i h -> ∀ b ∈ fp, ∃ o, h.get? b = some o /\ ∀ v, o.data ≠ .cell v
 keep : ∀ i h h', tn i h -> (∀ b ∈ fp, ∀ o, h.get? b = some o -> h'.get? b = some o) -> tn i h'
 item : ∀ (X : Cx), X.prog = P -> X.w = w -> X.K = K -> X.calm = true -> ∀ (i : Nat) (pins : List (Addr × Obj)) (s : Shared) (σ : St) (H : Hp) (E : Value -> Shared -> Prop), Inv X pins σ H s -> (∀ b ∈ fp, FpOk X pins H b) -> tn i s.heap -> J.go i H ->
  wpAny (model P w) X.A (pyNext (.ref it)) (fun r s1 => ∃ u, r = some u /\
   wpAny (model P w) X.A (letOwnedTupleGo tg (.ref it) u) (fun _ s2 => ∃ x H', Inv X pins σ H' s2 /\ RelV x u /\ J.yld i H x H' /\ tn (i + 1) s2.heap /\ ∀ b ∈ fp, H' b = none) E s1) E s
 done : ∀ (X : Cx), X.prog = P -> X.w = w -> X.K = K -> X.calm = true -> ∀ (i : Nat) (pins : List (Addr × Obj)) (s : Shared) (σ : St) (H : Hp) (E : Value -> Shared -> Prop), Inv X pins σ H s -> (∀ b ∈ fp, FpOk X pins H b) -> tn i s.heap -> J.stop i H ->
  wpAny (model P w) X.A (pyNext (.ref it)) (fun r s1 => r = none /\ Inv X pins σ H s1) E s
 self : ∀ (A : Around) (i : Nat) (s : Shared) (Q : Value -> Shared -> Prop) (E : Value -> Shared -> Prop), tn i s.heap -> Q (.ref it) s -> wpAny (model P w) A (pyIter (.ref it)) Q E s
abbrev TI := St -> Hp -> (It -> Hp -> Prop) -> Prop
noncomputable def PIE (X : Cx) (pins : List (Addr × Obj)) (σ : St) (tg : Expr) (R : It -> Hp -> Prop) (itv : Value) (s2 : Shared) : Prop :=
 ∃ (it : Addr) (fp : List Addr) (tn : Nat -> Heap -> Prop) (J : It) (H' : Hp), itv = .ref it /\ Inv X pins σ H' s2 /\ Turn X.prog X.w X.K tg J fp it tn /\ tn 0 s2.heap /\ (∀ b ∈ fp, FpOk X pins H' b) /\ R J H'
noncomputable def PI (X : Cx) (tg iter : Expr) (wi : TI) : Prop :=
 ∀ (pins : List (Addr × Obj)) (s : Shared) (σ : St) (H : Hp) (R : It -> Hp -> Prop), Inv X pins σ H s -> wi σ H R ->
  wpAny (model X.prog X.w) X.A (eval iter X.env) (fun v s1 => wpAny (model X.prog X.w) X.A (pyIter v) (PIE X pins σ tg R) X.xe s1) X.xe s
theorem go_of {M : Model} {A : Around} {E : Value -> Shared -> Prop} {s : Shared} {tg : Expr} {it : Addr} {u : Value} {o : Obj} {n : String} {vs : Array Value} {Q : Unit -> Shared -> Prop} (ho : s.heap.get? it = some o) (hc : o.cls = .type n) (hd : o.data = .fields vs)
  (hn : ["enumerate", "zip", "dict_itemiterator", "dict_reverseitemiterator", "odict_iterator", "itertools.zip_longest", "itertools.pairwise"].contains n = false) (hQ : Q () s) : wpAny M A (letOwnedTupleGo tg (.ref it) u) Q E s := by
 unfold letOwnedTupleGo
 cases tg <;> first
  | exact wpAny_pure hQ
  | (cases u <;> first
    | exact wpAny_pure hQ
    | (refine wpAny_bind (wpAny_load ho ?_)
       rw [hc, hd]
       show wpAny M A (if (["enumerate", "zip", "dict_itemiterator", "dict_reverseitemiterator", "odict_iterator", "itertools.zip_longest", "itertools.pairwise"].contains n && vs[0]? == some (rawInt _)) = true then _ else _) Q E s
       rw [if_neg (by intro h; rw [hn, Bool.false_and] at h; cases h)]
       exact wpAny_pure hQ))
noncomputable def Itl (K : PySem.W.Frag) (a : Addr) : It :=
 ⟨fun i H => ∃ xs x, SqL K H a xs /\ xs[i]? = some x, fun i H x H' => H' = H /\ ∀ xs, SqL K H a xs -> xs[i]? = some x, fun i H => ∃ xs, SqL K H a xs /\ xs.length <= i⟩
noncomputable def Itt (K : PySem.W.Frag) (a : Addr) : It :=
 ⟨fun i H => ∃ xs x, SqT K H a xs /\ xs[i]? = some x, fun i H x H' => H' = H /\ ∀ xs, SqT K H a xs -> xs[i]? = some x, fun i H => ∃ xs, SqT K H a xs /\ xs.length <= i⟩
noncomputable def Itr (lo : Int) (n : Nat) : It := ⟨fun i _ => i < n, fun i H x H' => H' = H /\ x = .int (lo + i), fun i _ => n <= i⟩
theorem turn_list {P : Program} {w : World} {K : PySem.W.Frag} {tg : Expr} (a it : Addr) : Turn P w K tg (Itl K a) [it] it (fun i h => h.IsListIter it a i) where
 mem := by simp
 obj := fun i h st b hb => by
  have e : b = it := by simpa using hb
  subst e
  obtain ⟨o, e, c, d⟩ := st
  exact ⟨o, e, fun v z => by rw [d] at z; cases z⟩
 keep := fun i h h' st k => st.at fun o e => k it (by simp) o e
 item := by
  intro X hP hw hK hc i pins s σ H E I hf st hg
  subst hP hw hK
  obtain ⟨xs, x, hq, hx⟩ := hg
  obtain ⟨its, rv, p, hz⟩ := I.list hq
  obtain ⟨u, hu, ru⟩ := rv.get hx
  obtain ⟨f0, f1, f2, f3, f4, f5⟩ := hf it (by simp)
  refine wpAny_pyNext_list_item st p.isList (x := u) (by simpa using hu) fun h' st' sb => ?_
  have I1 : Inv X pins σ H { s with heap := h' } := I.turned (t' := s.toks) (fun b o hb e => (sb.2 b hb).trans e) f0 f1 f3 f4 f5
  obtain ⟨o, e, c, d⟩ := id st'
  exact ⟨u, rfl, go_of (s := { s with heap := h' }) e c d (by decide) ⟨x, H, I1, ru, ⟨rfl, fun ys hy => by rw [I.list_inj hy hq]; exact hx⟩, st', fun b hb => (hf b hb).1⟩⟩
 done := by
  intro X hP hw hK hc i pins s σ H E I hf st hg
  subst hP hw hK
  obtain ⟨xs, hq, hx⟩ := hg
  obtain ⟨its, rv, p, hz⟩ := I.list hq
  obtain ⟨f0, f1, f2, f3, f4, f5⟩ := hf it (by simp)
  have hl := rv.length
  exact wpAny_pyNext_list_end (I.ok.hd hc) st p.isList (by simp; omega) fun h' eb => ⟨rfl, I.turned (t' := s.toks) (fun b o hb e => eb b o hb e) f0 f1 f3 f4 f5⟩
 self := fun _ _ _ _ _ st h => wpAny_pyIter_listiter st h
theorem turn_tuple {P : Program} {w : World} {K : PySem.W.Frag} {tg : Expr} (a it : Addr) : Turn P w K tg (Itt K a) [it] it (fun i h => h.IsTupleIter it a i) where
 mem := by simp
 obj := fun i h st b hb => by
  have e : b = it := by simpa using hb
  subst e
  obtain ⟨o, e, c, d⟩ := st
  exact ⟨o, e, fun v z => by rw [d] at z; cases z⟩
 keep := fun i h h' st k => st.at fun o e => k it (by simp) o e
 item := by
  intro X hP hw hK hc i pins s σ H E I hf st hg
  subst hP hw hK
  obtain ⟨xs, x, hq, hx⟩ := hg
  obtain ⟨its, rv, p, hz⟩ := I.tuple hq
  obtain ⟨u, hu, ru⟩ := rv.get hx
  obtain ⟨f0, f1, f2, f3, f4, f5⟩ := hf it (by simp)
  refine wpAny_pyNext_tuple_item st (show s.heap.IsTuple a its.toArray from p) (x := u) (by simpa using hu) fun h' st' sb => ?_
  have I1 : Inv X pins σ H { s with heap := h' } := I.turned (t' := s.toks) (fun b o hb e => (sb.2 b hb).trans e) f0 f1 f3 f4 f5
  obtain ⟨o, e, c, d⟩ := id st'
  exact ⟨u, rfl, go_of (s := { s with heap := h' }) e c d (by decide) ⟨x, H, I1, ru, ⟨rfl, fun ys hy => by rw [I.tuple_inj hy hq]; exact hx⟩, st', fun b hb => (hf b hb).1⟩⟩
 done := by
  intro X hP hw hK hc i pins s σ H E I hf st hg
  subst hP hw hK
  obtain ⟨xs, hq, hx⟩ := hg
  obtain ⟨its, rv, p, hz⟩ := I.tuple hq
  obtain ⟨f0, f1, f2, f3, f4, f5⟩ := hf it (by simp)
  have hl := rv.length
  exact wpAny_pyNext_tuple_end (I.ok.hd hc) st (show s.heap.IsTuple a its.toArray from p) (by simp; omega) fun h' eb => ⟨rfl, I.turned (t' := s.toks) (fun b o hb e => eb b o hb e) f0 f1 f3 f4 f5⟩
 self := fun _ _ _ _ _ st h => wpAny_pyIter_tupleiter st h
theorem turn_range {P : Program} {w : World} {K : PySem.W.Frag} {tg : Expr} (it : Addr) (lo : Int) (n : Nat) : Turn P w K tg (Itr lo n) [it] it (fun i h => IsRangeIter h it (lo + (i : Nat) * 1) ((n : Int) - (i : Nat)) 1) where
 mem := by simp
 obj := fun i h st b hb => by
  have e : b = it := by simpa using hb
  subst e
  exact ⟨_, st, fun v z => by
   have z' : Data.fields _ = Data.cell v := z
   cases z'⟩
 keep := fun i h h' st k => k it (by simp) _ st
 item := by
  intro X hP hw hK hc i pins s σ H E I hf st hg
  subst hP hw hK
  obtain ⟨f0, f1, f2, f3, f4, f5⟩ := hf it (by simp)
  have W := Walks.range (prog := X.prog) (w := X.w) (I.ok.hd hc) it lo 1 n
  refine W.item i s _ _ hg st fun v h' tk hv st' kk => ?_
  obtain ⟨t, rfl⟩ := hv
  have I1 : Inv X pins σ H { s with heap := h', toks := tk } := I.turned (fun b o hb e => kk b o (by simpa using hb) e) f0 f1 f3 f4 f5
  refine ⟨_, rfl, go_of (s := { s with heap := h', toks := tk }) (n := "range_iterator") st' rfl rfl (by decide) ⟨.int (lo + i), H, I1, ⟨t, ?_⟩, ⟨rfl, rfl⟩, st', fun b hb => (hf b hb).1⟩⟩
  rw [Int.mul_one]
 done := by
  intro X hP hw hK hc i pins s σ H E I hf st hg
  subst hP hw hK
  obtain ⟨f0, f1, f2, f3, f4, f5⟩ := hf it (by simp)
  exact wpAny_pyNext_range_end (I.ok.hd hc) st (by have : n <= i := hg; omega) fun h' eb => ⟨rfl, I.turned (t' := s.toks) (fun b o hb e => eb b o hb e) f0 f1 f3 f4 f5⟩
 self := fun _ _ _ _ _ st h => wpAny_pyIter_rangeiter st h
end L2
namespace L2
open PySem PySem.Spec PyProof.Rows
section
variable {X : Cx} {tg : Expr}
theorem range_it {pins : List (Addr × Obj)} {σ : St} {H : Hp} {s : Shared} {R : It -> Hp -> Prop} {E : Value -> Shared -> Prop} {lo hi : Int} {t u v : Tok} {tk : Nat} (I : Inv X pins σ H s) (h1 : -(2 ^ 62) <= lo) (h2 : lo < 2 ^ 62) (h3 : -(2 ^ 62) <= hi) (h4 : hi < 2 ^ 62)
  (q : R (Itr lo (hi - lo).toNat) H) : wpAny (model X.prog X.w) X.A (pyIter (.ref s.heap.objs.size)) (PIE X pins σ tg R) E { s with heap := s.heap.push { cls := .type "range", data := .fields #[.int lo t, .int hi u, .int 1 v] }, toks := tk } := by
 refine wpAny_pyIter_range (IsRange.new ..) (small_one h1 h2 h3 h4) ?_
 have I1 : Inv X pins σ H { s with heap := s.heap.push { cls := .type "range", data := .fields #[.int lo t, .int hi u, .int 1 v] }, toks := tk } := I.kept fun b o e => Heap.get?_push_of_some _ e
 refine ⟨(s.heap.push { cls := .type "range", data := .fields #[.int lo t, .int hi u, .int 1 v] }).objs.size, [(s.heap.push { cls := .type "range", data := .fields #[.int lo t, .int hi u, .int 1 v] }).objs.size], _, _, H, rfl,
  I1.kept (t' := tk) fun b o e => Heap.get?_push_of_some _ e, turn_range _ lo (hi - lo).toNat, ?_, fun b hb => ?_, q⟩
 ·have e1 : lo + ((0 : Nat) : Int) * 1 = lo := by simp
  have e2 : (((hi - lo).toNat : Nat) : Int) - ((0 : Nat) : Int) = Builtin.Range.rangeSize lo hi 1 := by rw [rangeSize_one]; split <;> omega
  show IsRangeIter _ _ (lo + ((0 : Nat) : Int) * 1) ((((hi - lo).toNat : Nat) : Int) - ((0 : Nat) : Int)) 1
  rw [e1, e2]
  exact Heap.get?_push_size _ rfl
 ·have e : b = (s.heap.push { cls := .type "range", data := .fields #[.int lo t, .int hi u, .int 1 v] }).objs.size := by simpa using hb
  subst e
  exact I1.fpOk (Nat.le_refl _) (I1.hok.fresh (Nat.le_refl _))
noncomputable def iRng1 (ta : TA) : TI := fun σ H R => ta σ H fun vs H1 => ∃ j : Int, vs = [.int j] /\ -(2 ^ 62) <= j /\ j < 2 ^ 62 /\ R (Itr 0 j.toNat) H1
theorem pi_range1 {a : Expr} {ta : TA} {p pos : Pos} (hg : Gl X "range") (hm : X.mg "range" = none) (ha : PA X [a] ta) (hs : starEach [a] X.env = [(false, eval a X.env)] := by rfl) : PI X tg (.Call (.Name "range" p) [a] [] pos) (iRng1 ta) := by
 (first | refine ⟨?_⟩ | skip); intro pins s σ H R I h
 refine Call_ (ld_blt I hg hm boot_range (PyProof.Rows.callWith_type1 (thn (ha pos pins s σ H _ I h) fun us s1 ⟨vs, H1, I1, r1, q1⟩ => ?_) hs rfl))
 obtain ⟨j, e, q1, q2, q⟩ := q1
 subst e
 cases r1 with
 | cons r rr =>
  cases rr
  obtain ⟨t, rfl⟩ := r
  exact call_range_1 (range_it I1 (by omega) (by omega) q1 q2 (by simpa using q))
noncomputable def tFor (wi : TI) (g : TG) (tb : TS) : TS := fun D σ H => wi σ H fun J H1 => ∃ W : Nat -> Nat -> St -> Hp -> Prop, (∃ m, W 0 m σ H1) /\ ∀ i m σ H, W i m σ H ->
 (J.stop i H /\ D.nx σ H) \/ (J.go i H /\ ∃ N : St -> Hp -> Prop, (∀ σ' H', N σ' H' -> ∃ m', m' < m /\ W (i + 1) m' σ' H') /\ ∀ x H', J.yld i H x H' -> g x σ H' fun σ2 H2 => tb { D with nx := N, ct := N, bk := D.nx } σ2 H2)
noncomputable def pinsAt (fp : List Addr) (h : Heap) : List (Addr × Obj) := fp.filterMap fun b => (h.get? b).map fun o => (b, o)
theorem mem_pinsAt {fp : List Addr} {h : Heap} {b : Addr} {o : Obj} (hb : b ∈ fp) (e : h.get? b = some o) : (b, o) ∈ pinsAt fp h := List.mem_filterMap.mpr ⟨b, hb, by rw [e]; rfl⟩
theorem of_pinsAt {fp : List Addr} {h : Heap} {p : Addr × Obj} (hp : p ∈ pinsAt fp h) : p.1 ∈ fp /\ h.get? p.1 = some p.2 := by
 obtain ⟨b, hb, e⟩ := List.mem_filterMap.mp hp
 cases q : h.get? b with
 | none => rw [q] at e; cases e
 | some o =>
  rw [q] at e
  have e' : (b, o) = p := Option.some.inj e
  subst e'
  exact ⟨hb, q⟩
theorem Inv.pinned {pins : List (Addr × Obj)} {σ : St} {H : Hp} {s : Shared} {fp : List Addr} (I : Inv X pins σ H s) (hf : ∀ b ∈ fp, FpOk X pins H b) (ho : ∀ b ∈ fp, ∃ o, s.heap.get? b = some o /\ ∀ v, o.data ≠ .cell v) : Inv X (pins ++ pinsAt fp s.heap) σ H s :=
 I.pins_of fun p hp => (List.mem_append.mp hp).elim (fun z => I.pin p (List.mem_append_right _ z)) fun z => by
  obtain ⟨hb, e⟩ := of_pinsAt z
  obtain ⟨f0, f1, f2, _⟩ := hf p.1 hb
  obtain ⟨o, e', d⟩ := ho p.1 hb
  rw [e] at e'; cases e'
  exact ⟨e, f0, f1, f2, d⟩
theorem Inv.unpinned {pins pl : List (Addr × Obj)} {σ : St} {H : Hp} {s : Shared} (I : Inv X (pins ++ pl) σ H s) : Inv X pins σ H s := I.pins_of fun p hp => I.pin p (List.mem_append_right _ (List.mem_append_left _ hp))
theorem ps_for {iter : Expr} {body : List Stmt} {wi : TI} {g : TG} {tb : TS} {pos : Pos} (hp : PassesOwn (model X.prog X.w) X.A X.env X.xe) (hc : X.calm = true) (hi : PI X tg iter wi) (hg : PG X tg g) (hb : PSs X body tb)
  (hs : ∀ x, foldedSetIterable iter X.env x = pure x := by intro _; rfl) : PS X (.For tg iter body [] pos) (tFor wi g tb) := by
 (first | refine ⟨?_⟩ | skip); intro pins s σ H D I h
 refine wpAny_For (thn (hi pins s σ H _ I h) fun v s1 h1 => thn h1 fun itv s2 h2 => ?_) hs
 obtain ⟨it, fp, tn, J, H2, e, I2, T, st2, f2, W, ⟨m0, w0⟩, turn⟩ := h2
 subst e
 -- what stays true of the iterator's objects through the loop
 have stat : ∀ {H' : Hp}, (∀ b ∈ fp, H' b = none) -> ∀ b ∈ fp, FpOk X pins H' b := fun hn b hb => ⟨hn b hb, (f2 b hb).2⟩
 refine codeAny_forLoop_any (fun n s' => ∃ i σ' H', Inv X pins σ' H' s' /\ tn i s'.heap /\ (∀ b ∈ fp, H' b = none) /\ W i n σ' H') ?_ m0 ⟨0, σ, H2, I2, st2, fun b hb => (f2 b hb).1, w0⟩
 rintro n s3 ⟨i, σ3, H3, I3, st3, fr3, w3⟩
 rcases turn i n σ3 H3 w3 with ⟨stop, qn⟩ | ⟨go, N, hN, step⟩
 ·refine wpAny_passesOwn hp (thn (T.done X rfl rfl rfl hc i pins s3 σ3 H3 X.xe I3 (stat fr3) st3 stop) fun r s4 ⟨hr, I4⟩ => ?_)
  subst hr
  exact wpAny_execs_nil ⟨σ3, H3, I4, qn⟩
 ·refine wpAny_passesOwn hp (thn (T.item X rfl rfl rfl hc i pins s3 σ3 H3 X.xe I3 (stat fr3) st3 go) fun r s4 ⟨u, hr, h4⟩ => ?_)
  subst hr
  refine wpAny_passesOwn hp (thn h4 fun _ s5 ⟨x, H5, I5, r5, y5, st5, fr5⟩ => ?_)
  have I5' := I5.pinned (stat fr5) (T.obj _ _ st5)
  refine wpAny_passesOwn hp (thn (hg _ s5 σ3 H5 x u _ I5' r5 (step x H5 y5)) fun _ s6 ⟨σ6, H6, I6, q6⟩ => ?_)
  refine wpAny_passesOwn hp (thn (hb _ s6 σ6 H6 _ I6 q6) fun f s7 q7 => ?_)
  have again : ∀ {σ7 : St} {H7 : Hp}, Inv X (pins ++ pinsAt fp s5.heap) σ7 H7 s7 -> N σ7 H7 -> ∃ m, m < n /\ ∃ i σ' H', Inv X pins σ' H' s7 /\ tn i s7.heap /\ (∀ b ∈ fp, H' b = none) /\ W i m σ' H' := fun {σ7 H7} I7 n7 => by
   obtain ⟨m', hm, w7⟩ := hN σ7 H7 n7
   refine ⟨m', hm, i + 1, σ7, H7, I7.unpinned, T.keep _ _ _ st5 fun b hb o e => (I7.pin (b, o) (List.mem_append_right _ (List.mem_append_right _ (mem_pinsAt hb e)))).1, fun b hb => ?_, w7⟩
   obtain ⟨o, e, d⟩ := T.obj _ _ st5 b hb
   exact (I7.pin (b, o) (List.mem_append_right _ (List.mem_append_right _ (mem_pinsAt hb e)))).2.1
  cases f with
  | next => obtain ⟨σ7, H7, I7, n7⟩ := q7; exact again I7 n7
  | cont => obtain ⟨σ7, H7, I7, n7⟩ := q7; exact again I7 n7
  | brk => obtain ⟨σ7, H7, I7, q7⟩ := q7; exact ⟨σ7, H7, I7.unpinned, q7⟩
  | ret v => obtain ⟨x7, σ7, H7, I7, r7, q7⟩ := q7; exact ⟨x7, σ7, H7, I7.unpinned, r7, q7⟩
end
end L2
namespace L2
open PySem PySem.Spec PyProof.Rows
abbrev R2 := V -> V -> Hp -> VK -> Prop
noncomputable def OpR (X : Cx) (f : Value -> Value -> Sem Value) (r : R2) : Prop :=
 ∀ (pins : List (Addr × Obj)) (s : Shared) (σ : St) (H : Hp) (x y : V) (v u : Value) (Q : VK), Inv X pins σ H s -> RelV x v -> RelV y u -> r x y H Q ->
  wpAny (model X.prog X.w) X.A (f v u) (EP X pins σ Q) X.xe s
noncomputable def UnR (X : Cx) (f : Value -> Sem Value) (r : V -> Hp -> VK -> Prop) : Prop :=
 ∀ (pins : List (Addr × Obj)) (s : Shared) (σ : St) (H : Hp) (x : V) (v : Value) (Q : VK), Inv X pins σ H s -> RelV x v -> r x H Q ->
  wpAny (model X.prog X.w) X.A (f v) (EP X pins σ Q) X.xe s
noncomputable def CallR (X : Cx) (f : Value) (r : List V -> Hp -> VK -> Prop) : Prop :=
 ∀ (pins : List (Addr × Obj)) (s : Shared) (σ : St) (H : Hp) (xs : List V) (us : List Value) (Q : VK), Inv X pins σ H s -> Vals xs us -> r xs H Q ->
  wpAny (model X.prog X.w) X.A (call f us) (EP X pins σ Q) X.xe s
noncomputable def TruR (X : Cx) (r : V -> Hp -> (Bool -> Hp -> Prop) -> Prop) : Prop :=
 ∀ (pins : List (Addr × Obj)) (s : Shared) (σ : St) (H : Hp) (x : V) (v : Value) (Q : Bool -> Hp -> Prop), Inv X pins σ H s -> RelV x v -> r x H Q ->
  wpAny (model X.prog X.w) X.A (truthy v) (TP X pins σ Q) X.xe s
noncomputable def tOp (r : R2) (ta tb : TE) : TE := fun σ H Q => ta σ H fun x H1 => tb σ H1 fun y H2 => r x y H2 Q
noncomputable def tUn (r : V -> Hp -> VK -> Prop) (ta : TE) : TE := fun σ H Q => ta σ H fun x H1 => r x H1 Q
noncomputable def rI (C : Int -> Int -> Prop) (g : Int -> Int -> V) : R2 := fun x y H Q => ∃ i j, x = .int i /\ y = .int j /\ C i j /\ Q (g i j) H
noncomputable def rI0 (g : Int -> Int -> V) : R2 := fun x y H Q => ∃ i j, x = .int i /\ y = .int j /\ Q (g i j) H
noncomputable def rU (g : Int -> V) : V -> Hp -> VK -> Prop := fun x H Q => ∃ i, x = .int i /\ Q (g i) H
section
variable {X : Cx} {a b c : Expr} {ta tb tc : TE} {pos : Pos}
theorem binT (ha : PE X a ta) (hb : PE X b tb) {pins : List (Addr × Obj)} {s : Shared} {σ : St} {H : Hp} {R : V -> V -> Hp -> Prop} (I : Inv X pins σ H s)
  (h : ta σ H fun x H1 => tb σ H1 fun y H2 => R x y H2) {Q : Value -> Shared -> Prop} {f : Value -> Value -> Sem Value}
  (hf : ∀ v u s2 x y H2, Inv X pins σ H2 s2 -> RelV x v -> RelV y u -> R x y H2 -> wpAny (model X.prog X.w) X.A (f v u) Q X.xe s2) :
  wpAny (model X.prog X.w) X.A (eval a X.env) (fun v s₁ => wpAny (model X.prog X.w) X.A (eval b X.env) (fun u s₂ => wpAny (model X.prog X.w) X.A (f v u) Q X.xe s₂) X.xe s₁) X.xe s := by
 refine thn (ha pins s σ H _ I h) fun v s1 ⟨x, H1, I1, r1, q1⟩ => ?_
 refine thn (hb pins s1 σ H1 _ I1 q1) fun u s2 ⟨y, H2, I2, r2, q2⟩ => ?_
 exact hf v u s2 x y H2 I2 r1 r2 q2
theorem pe_op {op : Operator} {r : R2} (ho : OpR X (binaryOp op) r) (ha : PE X a ta) (hb : PE X b tb) : PE X (.BinOp a op b pos) (tOp r ta tb) := by
 (first | refine ⟨?_⟩ | skip); intro pins s σ H Q I h
 exact wpAny_BinOp (binT ha hb I h fun v u s2 x y H2 I2 rx ry q => ho pins s2 σ H2 x y v u Q I2 rx ry q)
theorem pe_un {op : UnaryOp} {r : V -> Hp -> VK -> Prop} (ho : UnR X (unaryOp op) r) (ha : PE X a ta) : PE X (.UnaryOp op a pos) (tUn r ta) := by
 (first | refine ⟨?_⟩ | skip); intro pins s σ H Q I h
 exact UnaryOp_ (thn (ha pins s σ H _ I h) fun v s1 ⟨x, H1, I1, r1, q1⟩ => ho pins s1 σ H1 x v Q I1 r1 q1)
theorem opI {f : Value -> Value -> Sem Value} {C : Int -> Int -> Prop} {g : Int -> Int -> Int}
  (rule : ∀ (i j : Int) (t u : Tok) (s : Shared) (Q : Value -> Shared -> Prop) (E : Value -> Shared -> Prop), C i j -> Q (.int (g i j) s.toks) { s with toks := s.toks + 1 } -> wpAny (model X.prog X.w) X.A (f (.int i t) (.int j u)) Q E s) :
  OpR X f (rI C fun i j => .int (g i j)) := by
 (first | refine ⟨?_⟩ | skip); intro pins s σ H x y v u Q I rx ry h
 obtain ⟨i, j, rfl, rfl, hc, q⟩ := h
 obtain ⟨t, rfl⟩ := rx
 obtain ⟨t', rfl⟩ := ry
 exact rule i j t t' s _ _ hc ⟨.int (g i j), H, I.tok _, ⟨_, rfl⟩, q⟩
theorem opI0 {f : Value -> Value -> Sem Value} {g : Int -> Int -> Int}
  (rule : ∀ (i j : Int) (t u : Tok) (s : Shared) (Q : Value -> Shared -> Prop) (E : Value -> Shared -> Prop), Q (.int (g i j) s.toks) { s with toks := s.toks + 1 } -> wpAny (model X.prog X.w) X.A (f (.int i t) (.int j u)) Q E s) :
  OpR X f (rI0 fun i j => .int (g i j)) := by
 (first | refine ⟨?_⟩ | skip); intro pins s σ H x y v u Q I rx ry h
 obtain ⟨i, j, rfl, rfl, q⟩ := h
 obtain ⟨t, rfl⟩ := rx
 obtain ⟨t', rfl⟩ := ry
 exact rule i j t t' s _ _ ⟨.int (g i j), H, I.tok _, ⟨_, rfl⟩, q⟩
theorem opB0 {f : Value -> Value -> Sem Value} {g : Int -> Int -> Bool}
  (rule : ∀ (i j : Int) (t u : Tok) (s : Shared) (Q : Value -> Shared -> Prop) (E : Value -> Shared -> Prop), Q (.bool (g i j)) s -> wpAny (model X.prog X.w) X.A (f (.int i t) (.int j u)) Q E s) :
  OpR X f (rI0 fun i j => .bl (g i j)) := by
 (first | refine ⟨?_⟩ | skip); intro pins s σ H x y v u Q I rx ry h
 obtain ⟨i, j, rfl, rfl, q⟩ := h
 obtain ⟨t, rfl⟩ := rx
 obtain ⟨t', rfl⟩ := ry
 exact rule i j t t' s _ _ ⟨.bl (g i j), H, I, rfl, q⟩
noncomputable def CDiv (i j : Int) : Prop := 0 < j /\ j < 1073741824
noncomputable def CPow (i j : Int) : Prop := 0 <= j /\ j <= 1000000 /\ i.natAbs < 2 ^ 64
noncomputable def CMul (i j : Int) : Prop := (-(2 ^ 64) < i /\ i < 2 ^ 64) \/ (-(2 ^ 64) < j /\ j < 2 ^ 64)
theorem CMul.ok {i j : Int} (h : CMul i j) : IntMulOk i j := by
 rcases h with ⟨h1, h2⟩ | ⟨h1, h2⟩
 ·exact .of_left (intBits_le_64 h1 h2)
 ·exact .of_right (intBits_le_64 h1 h2)
theorem op_add : OpR X (binaryOp .Add) (rI0 fun i j => .int (i + j)) := opI0 fun _ _ _ _ _ _ _ q => add_int q
theorem op_mul : OpR X (binaryOp .Mult) (rI CMul fun i j => .int (i * j)) := opI fun _ _ _ _ _ _ _ hc q => mul_int q hc.ok
theorem op_fdiv : OpR X (binaryOp .FloorDiv) (rI CDiv fun i j => .int (i / j)) := opI fun i j _ _ _ _ _ hc q => by
 have h1 : (0 : Int) < j := hc.1
 have h2 : j < 1073741824 := hc.2
 exact floordiv_int (by omega) (by rw [Int.fdiv_eq_ediv_of_nonneg i (by omega)]; exact q) (.inl (PyProof.noPylong_small (by omega)))
theorem op_mod : OpR X (binaryOp .Mod) (rI (fun _ j => 0 < j) fun i j => .int (i % j)) := opI fun i j _ _ _ _ _ hc q => by
 have h1 : (0 : Int) < j := hc
 exact mod_int' (by omega) (by rw [Int.fmod_eq_emod_of_nonneg i (by omega)]; exact q)
theorem op_pow : OpR X (binaryOp .Pow) (rI CPow fun i j => .int (i ^ j.toNat)) := opI fun _ _ _ _ _ _ _ hc q => pow_int_small hc.1 hc.2.1 hc.2.2 q
theorem unI {f : Value -> Sem Value} {g : Int -> Int}
  (rule : ∀ (i : Int) (t : Tok) (s : Shared) (Q : Value -> Shared -> Prop) (E : Value -> Shared -> Prop), Q (.int (g i) s.toks) { s with toks := s.toks + 1 } -> wpAny (model X.prog X.w) X.A (f (.int i t)) Q E s) :
  UnR X f (rU fun i => .int (g i)) := by
 (first | refine ⟨?_⟩ | skip); intro pins s σ H x v Q I rx h
 obtain ⟨i, rfl, q⟩ := h
 obtain ⟨t, rfl⟩ := rx
 exact rule i t s _ _ ⟨.int (g i), H, I.tok _, ⟨_, rfl⟩, q⟩
theorem un_neg : UnR X (unaryOp .USub) (rU fun i => .int (-i)) := unI fun _ _ _ _ _ q => neg_int q
end
noncomputable def scal : V -> V -> Bool
 | .non, .non => true | .non, .int _ => true | .int _, .non => true | .non, .bl _ => true | .bl _, .non => true | .non, .str _ => true | .str _, .non => true
 | .int _, .int _ => true | .bl _, .bl _ => true | .str _, .str _ => true | .byt _, .byt _ => true
 | .int _, .str _ => true | .str _, .int _ => true | .bl _, .str _ => true | .str _, .bl _ => true
 | _, _ => false
noncomputable def rEq : R2 := fun x y H Q => scal x y = true /\ Q (.bl (decide (x = y))) H
noncomputable def rNe : R2 := fun x y H Q => scal x y = true /\ Q (.bl (!decide (x = y))) H
theorem dec_int {i j : Int} : decide (V.int i = V.int j) = (i == j) := by
 rw [Bool.eq_iff_iff]
 simp
theorem dec_bl {i j : Bool} : decide (V.bl i = V.bl j) = (i == j) := by
 rw [Bool.eq_iff_iff]
 simp
theorem dec_str {i j : Str} : decide (V.str i = V.str j) = (i == j) := by
 rw [Bool.eq_iff_iff]
 simp
theorem dec_byt {i j : Array UInt8} : decide (V.byt i = V.byt j) = (i.toList == j.toList) := by
 rw [Bool.eq_iff_iff]
 cases i
 cases j
 simp
section
variable {X : Cx} {a b c : Expr} {ta tb tc : TE} {pos : Pos}
theorem fin_bl {pins : List (Addr × Obj)} {σ : St} {H : Hp} {s : Shared} {Q : VK} {k k' : Bool} (I : Inv X pins σ H s) (q : Q (.bl k) H) (e : k = k') : EP X pins σ Q (.bool k') s := by
 subst e
 exact ⟨.bl k, H, I, rfl, q⟩
theorem op_eq : OpR X (compareOp .Eq) rEq := by
 (first | refine ⟨?_⟩ | skip); intro pins s σ H x y v u Q I rx ry h
 obtain ⟨hs, q⟩ := h
 cases x with
 | non =>
  cases rx
  cases y with
  | non => cases ry; exact PySem.EqNone.eq_none_none (fin_bl I q (by simp))
  | bl j => cases ry; exact PySem.EqNone.eq_none_bool (fin_bl I q (by simp))
  | int j => obtain ⟨t', rfl⟩ := ry; exact PySem.EqNone.eq_none_int (fin_bl I q (by simp))
  | str j => obtain ⟨t', rfl⟩ := ry; exact PySem.EqNone.eq_none_str (fin_bl I q (by simp))
  | _ => exact absurd (show false = true from hs) Bool.false_ne_true
 | bl i =>
  cases rx
  cases y with
  | non => cases ry; exact PySem.EqNone.eq_bool_none (fin_bl I q (by simp))
  | bl j => cases ry; exact eq_bool (fin_bl I q dec_bl)
  | str j => obtain ⟨t', rfl⟩ := ry; exact PySem.EqMixed.eq_bool_str (fin_bl I q (by simp))
  | _ => exact absurd (show false = true from hs) Bool.false_ne_true
 | int i =>
  obtain ⟨t, rfl⟩ := rx
  cases y with
  | non => cases ry; exact PySem.EqNone.eq_int_none (fin_bl I q (by simp))
  | int j => obtain ⟨t', rfl⟩ := ry; exact eq_int (fin_bl I q dec_int)
  | str j => obtain ⟨t', rfl⟩ := ry; exact PySem.EqMixed.eq_int_str (fin_bl I q (by simp))
  | _ => exact absurd (show false = true from hs) Bool.false_ne_true
 | str i =>
  obtain ⟨t, rfl⟩ := rx
  cases y with
  | non => cases ry; exact PySem.EqNone.eq_str_none (fin_bl I q (by simp))
  | bl j => cases ry; exact PySem.EqMixed.eq_str_bool (fin_bl I q (by simp))
  | int j => obtain ⟨t', rfl⟩ := ry; exact PySem.EqMixed.eq_str_int (fin_bl I q (by simp))
  | str j => obtain ⟨t', rfl⟩ := ry; exact eq_str (fin_bl I q dec_str)
  | _ => exact absurd (show false = true from hs) Bool.false_ne_true
 | byt i =>
  obtain ⟨t, rfl⟩ := rx
  cases y with
  | byt j => obtain ⟨t', rfl⟩ := ry; exact PySem.W.eq_bytes (fin_bl I q dec_byt)
  | _ => exact absurd (show false = true from hs) Bool.false_ne_true
 | _ => cases y <;> exact absurd (show false = true from hs) Bool.false_ne_true
theorem op_ne : OpR X (compareOp .NotEq) rNe := by
 (first | refine ⟨?_⟩ | skip); intro pins s σ H x y v u Q I rx ry h
 obtain ⟨hs, q⟩ := h
 cases x with
 | non =>
  cases rx
  cases y with
  | non => cases ry; exact PySem.EqNone.ne_none_none (fin_bl I q (by simp))
  | bl j => cases ry; exact PySem.EqNone.ne_none_bool (fin_bl I q (by simp))
  | int j => obtain ⟨t', rfl⟩ := ry; exact PySem.EqNone.ne_none_int (fin_bl I q (by simp))
  | str j => obtain ⟨t', rfl⟩ := ry; exact PySem.EqNone.ne_none_str (fin_bl I q (by simp))
  | _ => exact absurd (show false = true from hs) Bool.false_ne_true
 | bl i =>
  cases rx
  cases y with
  | non => cases ry; exact PySem.EqNone.ne_bool_none (fin_bl I q (by simp))
  | bl j => cases ry; exact ne_bool (fin_bl I q (congrArg not dec_bl))
  | str j => obtain ⟨t', rfl⟩ := ry; exact PySem.EqMixed.ne_bool_str (fin_bl I q (by simp))
  | _ => exact absurd (show false = true from hs) Bool.false_ne_true
 | int i =>
  obtain ⟨t, rfl⟩ := rx
  cases y with
  | non => cases ry; exact PySem.EqNone.ne_int_none (fin_bl I q (by simp))
  | int j => obtain ⟨t', rfl⟩ := ry; exact ne_int (fin_bl I q (congrArg not dec_int))
  | str j => obtain ⟨t', rfl⟩ := ry; exact PySem.EqMixed.ne_int_str (fin_bl I q (by simp))
  | _ => exact absurd (show false = true from hs) Bool.false_ne_true
 | str i =>
  obtain ⟨t, rfl⟩ := rx
  cases y with
  | non => cases ry; exact PySem.EqNone.ne_str_none (fin_bl I q (by simp))
  | bl j => cases ry; exact PySem.EqMixed.ne_str_bool (fin_bl I q (by simp))
  | int j => obtain ⟨t', rfl⟩ := ry; exact PySem.EqMixed.ne_str_int (fin_bl I q (by simp))
  | str j => obtain ⟨t', rfl⟩ := ry; exact ne_str (fin_bl I q (congrArg not dec_str))
  | _ => exact absurd (show false = true from hs) Bool.false_ne_true
 | byt i =>
  obtain ⟨t, rfl⟩ := rx
  cases y with
  | byt j => obtain ⟨t', rfl⟩ := ry; exact PySem.W.ne_bytes (fin_bl I q (congrArg not dec_byt))
  | _ => exact absurd (show false = true from hs) Bool.false_ne_true
 | _ => cases y <;> exact absurd (show false = true from hs) Bool.false_ne_true
theorem op_le : OpR X (compareOp .LtE) (rI0 fun i j => .bl (decide (i <= j))) := opB0 fun _ _ _ _ _ _ _ q => le_int q
theorem op_gt : OpR X (compareOp .Gt) (rI0 fun i j => .bl (decide (j < i))) := opB0 fun _ _ _ _ _ _ _ q => gt_int q
theorem op_ge : OpR X (compareOp .GtE) (rI0 fun i j => .bl (decide (j <= i))) := opB0 fun _ _ _ _ _ _ _ q => ge_int q
theorem op_in_str : OpR X (compareOp .In) (fun x y H Q => ∃ i j, x = .str i /\ y = .str j /\ Q (.bl (!(Builtin.Str.occurrences j i 0 j.length 1).isEmpty)) H) := by
 (first | refine ⟨?_⟩ | skip); intro pins s σ H x y v u Q I rx ry h
 obtain ⟨i, j, rfl, rfl, q⟩ := h
 obtain ⟨t, rfl⟩ := rx
 obtain ⟨t', rfl⟩ := ry
 exact in_str (fin_bl I q rfl)
theorem op_notin_str : OpR X (compareOp .NotIn) (fun x y H Q => ∃ i j, x = .str i /\ y = .str j /\ Q (.bl (!(!(Builtin.Str.occurrences j i 0 j.length 1).isEmpty))) H) := by
 (first | refine ⟨?_⟩ | skip); intro pins s σ H x y v u Q I rx ry h
 obtain ⟨i, j, rfl, rfl, q⟩ := h
 obtain ⟨t, rfl⟩ := rx
 obtain ⟨t', rfl⟩ := ry
 exact notIn_str (fin_bl I q rfl)
theorem nomark (b : Expr) {op : CmpOp} (h : op ≠ .In := by decide) (h2 : op ≠ .NotIn := by decide) : behindInMarks op b = false := by
 have e1 : (op == CmpOp.In) = false := by cases op <;> first | rfl | exact absurd rfl h
 have e2 : (op == CmpOp.NotIn) = false := by cases op <;> first | rfl | exact absurd rfl h2
 cases b <;> simp [behindInMarks, e1, e2]
theorem pe_cmpR {op : CmpOp} {r : R2} (ho : OpR X (compareOp op) r) (ha : PE X a ta) (hb : PE X b tb) (hm : behindInMarks op b = false) : PE X (.Compare a [op] [b] pos) (tOp r ta tb) := by
 (first | refine ⟨?_⟩ | skip); intro pins s σ H Q I h
 exact wpAny_Compare1 (binT ha hb I h fun v u s2 x y H2 I2 rx ry q => ho pins s2 σ H2 x y v u Q I2 rx ry q) hm
noncomputable def tTest (t : TE) : TT := fun σ H Q => t σ H fun x H' => ∃ k, x = .bl k /\ Q k H'
theorem pt_cmpR {op : CmpOp} {r : R2} (ho : OpR X (compareOp op) r) (ha : PE X a ta) (hb : PE X b tb) (hm : behindInMarks op b = false) : PT X (.Compare a [op] [b] pos) (tTest (tOp r ta tb)) := by
 (first | refine ⟨?_⟩ | skip); intro pins s σ H Q I h
 refine wpAny_isTrue_Compare1 (thn (ha pins s σ H _ I h) fun v s1 ⟨x, H1, I1, r1, q1⟩ => thn (hb pins s1 σ H1 _ I1 q1) fun u s2 ⟨y, H2, I2, r2, q2⟩ =>
  thn (ho pins s2 σ H2 x y v u _ I2 r1 r2 q2) fun c s3 ⟨z, H3, I3, r3, k, e, q3⟩ => ?_) hm
 subst e
 cases r3
 exact wpAny_truthy_bool ⟨H3, I3, q3⟩
noncomputable def TruV (K : PySem.W.Frag) (x : V) (H : Hp) (k : Bool) : Prop :=
 match x with
 | .non => k = false
 | .bl b => k = b
 | .int i => k = (i != 0)
 | .str y => y.length <= sizeLine /\ k = ((y.length : Int) != 0)
 | .byt y => y.size <= sizeLine /\ k = ((y.size : Int) != 0)
 | .ref p => (∃ xs, SqL K H p xs /\ k = !xs.isEmpty) \/ (∃ xs, SqT K H p xs /\ k = !xs.isEmpty) \/ ∃ kvs, H p = some (.dK kvs) /\ k = !kvs.isEmpty
 | _ => False
theorem isEmpty_kv {κ : Type} {kvs : List (κ × V)} {vs : List (κ × Value)} (r : KV kvs vs) : (!vs.isEmpty) = !kvs.isEmpty := by
 cases r <;> rfl
theorem isEmpty_of {xs : List V} {its : List Value} (r : Vals xs its) : (!its.toArray.isEmpty) = !xs.isEmpty := by
 cases r <;> simp
theorem line63 : (sizeLine : Nat) < 2 ^ 63 := by rw [sizeLine_eq]; decide
theorem tru_ok : TruR X (fun x H Q => ∃ k, TruV X.K x H k /\ Q k H) := by
 (first | refine ⟨?_⟩ | skip); intro pins s σ H x v Q I rx h
 obtain ⟨k, e, q⟩ := h
 have hl := line63
 have hs : sizeLine = 16777216 := sizeLine_eq
 cases x with
 | non =>
  cases rx
  have e' : k = false := e
  subst e'
  exact truthy_none ⟨H, I, q⟩
 | bl b =>
  cases rx
  have e' : k = b := e
  subst e'
  exact wpAny_truthy_bool ⟨H, I, q⟩
 | int i =>
  obtain ⟨t, rfl⟩ := rx
  have e' : k = (i != 0) := e
  subst e'
  exact PySem.P.truthy_int ⟨H, I, q⟩
 | str y =>
  obtain ⟨t, rfl⟩ := rx
  obtain ⟨hy, e'⟩ : y.length <= sizeLine /\ k = ((y.length : Int) != 0) := e
  subst e'
  exact PySem.P.truthy_str (by omega) ⟨H, I.tok _, q⟩
 | byt y =>
  obtain ⟨t, rfl⟩ := rx
  obtain ⟨hy, e'⟩ : y.size <= sizeLine /\ k = ((y.size : Int) != 0) := e
  subst e'
  exact PySem.W.truthy_bytes (by omega) ⟨H, I.tok _, q⟩
 | ref p =>
  cases rx
  have e' : (∃ xs, SqL X.K H p xs /\ k = !xs.isEmpty) \/ (∃ xs, SqT X.K H p xs /\ k = !xs.isEmpty) \/ ∃ kvs, H p = some (.dK kvs) /\ k = !kvs.isEmpty := e
  rcases e' with ⟨xs, hx, e'⟩ | ⟨xs, hx, e'⟩ | ⟨kvs, hx, e'⟩
  ·subst e'
   obtain ⟨its, r, pl, hz⟩ := I.list hx
   have hlen := r.length
   exact wpAny_truthy_list pl.isList (by simp only [List.size_toArray]; omega) ⟨H, I.tok _, by rw [isEmpty_of r]; exact q⟩
  ·subst e'
   obtain ⟨its, r, pl, hz⟩ := I.tuple hx
   have hlen := r.length
   exact truthy_tuple pl (by simp only [List.size_toArray]; omega) ⟨H, I.tok _, by rw [isEmpty_of r]; exact q⟩
  ·subst e'
   obtain ⟨hz, hS, vs, r, m⟩ : kvs.length <= sizeLine /\ (p == sysModules) = false /\ ∃ vs, KV kvs vs /\ s.heap.DictOf (mixKind X.prog X.w) p vs := I.hok p _ hx
   have hlen : kvs.length = vs.length := Paired.length r
   exact wpAny_truthy_dict hS m (by omega) ⟨H, I.tok _, by rw [isEmpty_kv r]; exact q⟩
 | _ => exact (show False from e).elim
theorem pt_truth (ha : PE X a ta) (he : ∀ whole, isTrue a X.env whole = (do let v ← whole; standAt a.pos; holding [v] (truthy v))) :
  PT X a (fun σ H Q => ta σ H fun x H' => ∃ k, TruV X.K x H' k /\ Q k H') := by
 (first | refine ⟨?_⟩ | skip); intro pins s σ H Q I h
 exact isTrue_plain (thn (ha pins s σ H _ I h) fun v s1 ⟨x, H1, I1, r1, q1⟩ => tru_ok pins s1 σ H1 x v Q I1 r1 q1) (he _)
theorem op_add_str : OpR X (binaryOp .Add) (fun x y H Q => ∃ i j, x = .str i /\ y = .str j /\ i.length + j.length <= sizeLine /\ Q (.str (i ++ j)) H) := by
 (first | refine ⟨?_⟩ | skip); intro pins s σ H x y v u Q I rx ry h
 obtain ⟨i, j, rfl, rfl, hz, q⟩ := h
 obtain ⟨t, rfl⟩ := rx
 obtain ⟨t', rfl⟩ := ry
 exact add_str (fun t' tk => ⟨.str (i ++ j), H, I.tok _, ⟨_, rfl⟩, q⟩) hz
theorem vals1 {x : V} {us : List Value} (r : Vals [x] us) : ∃ u, us = [u] /\ RelV x u := by
 cases r with
 | cons r1 r2 => cases r2; exact ⟨_, rfl, r1⟩
theorem vals2 {x y : V} {us : List Value} (r : Vals [x, y] us) : ∃ u w', us = [u, w'] /\ RelV x u /\ RelV y w' := by
 cases r with
 | cons r1 r2 =>
  cases r2 with
  | cons r3 r4 => cases r4; exact ⟨_, _, rfl, r1, r3⟩
end
end L2
namespace L2
open PySem PySem.Spec PyProof.Rows
theorem lookIn_ns {h : Heap} {dx : Addr} {mA : Str -> Option Value} (n : h.Ns1 dx mA) : ∃ od, h.get? dx = some od /\ ∀ name, PySem.W.lookIn name od = some (mA name) := by
 obtain ⟨o, es, ep, ho, hd, hk, _, hm⟩ := n
 refine ⟨o, ho, fun name => ?_⟩
 have e := hm name
 unfold nsFind findBy at e
 rw [← Array.find?_toList] at e
 unfold PySem.W.lookIn
 rw [hd]
 dsimp only
 split
 ·rename_i y q
  rw [q] at e
  exact congrArg some e
 ·rename_i q
  rw [q] at e
  have a : es.toList.any (·.refKey) = false := by
   rw [List.any_eq_false]
   intro y hy
   obtain ⟨z, t, hkey⟩ := hk y (Array.mem_toList_iff.mp hy)
   simp [DictEntry.refKey, hkey]
  have a' : ¬ es.toList.any (·.refKey) = true := by rw [a]; exact Bool.false_ne_true
  rw [if_neg a']
  exact congrArg some e
noncomputable def putF (f : Str) (v : V) : List (Str × V) -> List (Str × V)
 | [] => [(f, v)]
 | (g, x) :: r => if g = f then (g, v) :: r else (g, x) :: putF f v r
theorem lookup_putF (f g : Str) (v : V) : ∀ fs : List (Str × V), (putF f v fs).lookup g = if g = f then some v else fs.lookup g
 | [] => by
  show List.lookup g [(f, v)] = _
  by_cases h : g = f
  ·have hb : (g == f) = true := beq_iff_eq.mpr h
   simp only [List.lookup, hb, if_pos h]
  ·have hb : (g == f) = false := beq_eq_false_iff_ne.mpr h
   simp only [List.lookup, hb, if_neg h]
 | (k, x) :: r => by
  have ih := lookup_putF f g v r
  rw [show putF f v ((k, x) :: r) = (if k = f then (k, v) :: r else (k, x) :: putF f v r) from rfl]
  by_cases hk : k = f
  ·rw [if_pos hk]
   by_cases h : g = k
   ·have hb : (g == k) = true := beq_iff_eq.mpr h
    simp only [List.lookup, hb, if_pos (h.trans hk)]
   ·have hb : (g == k) = false := beq_eq_false_iff_ne.mpr h
    simp only [List.lookup, hb, if_neg (fun e : g = f => h (e.trans hk.symm))]
  ·rw [if_neg hk]
   by_cases h : g = k
   ·have hb : (g == k) = true := beq_iff_eq.mpr h
    simp only [List.lookup, hb, if_neg (fun e : g = f => hk (h.symm.trans e))]
   ·have hb : (g == k) = false := beq_eq_false_iff_ne.mpr h
    simp only [List.lookup, hb]
    exact ih
theorem keys_putF (f : Str) (v : V) : ∀ fs : List (Str × V), f ∈ (putF f v fs).map (·.1) /\ ∀ g, g ∈ fs.map (·.1) -> g ∈ (putF f v fs).map (·.1)
 | [] => ⟨by simp [putF], fun g h => by simp at h⟩
 | (k, x) :: r => by
  obtain ⟨i1, i2⟩ := keys_putF f v r
  rw [show putF f v ((k, x) :: r) = (if k = f then (k, v) :: r else (k, x) :: putF f v r) from rfl]
  by_cases hk : k = f
  ·rw [if_pos hk]
   subst hk
   exact ⟨by simp, fun g h => by simpa using h⟩
  ·rw [if_neg hk]
   refine ⟨?_, fun g h => ?_⟩
   ·rw [List.map_cons]
    exact List.mem_cons_of_mem _ i1
   ·rw [List.map_cons] at h ⊢
    rcases List.mem_cons.mp h with e | e
    ·exact List.mem_cons.mpr (.inl e)
    ·exact List.mem_cons_of_mem _ (i2 g e)
theorem length_putF (f : Str) (v : V) : ∀ fs : List (Str × V), (putF f v fs).length <= fs.length + 1
 | [] => by simp [putF]
 | (k, x) :: r => by
  have ih := length_putF f v r
  rw [show putF f v ((k, x) :: r) = (if k = f then (k, v) :: r else (k, x) :: putF f v r) from rfl]
  by_cases hk : k = f
  ·rw [if_pos hk, List.length_cons, List.length_cons]; omega
  ·rw [if_neg hk, List.length_cons, List.length_cons]; omega
theorem RelO.some_of {v : V} {o : Option Value} (r : RelO (some v) o) : ∃ u, o = some u /\ RelV v u := by
 cases o with
 | none => exact (show False from r).elim
 | some u => exact ⟨u, rfl, r⟩
theorem handed_of {v : V} {u : Value} (r : RelV v u) : PySem.W.handedIn u = true := by
 cases v with
 | non => cases (show u = Value.none from r); rfl
 | bl b => cases (show u = Value.bool b from r); rfl
 | int i => obtain ⟨t, e⟩ := (show ∃ t, u = Value.int i t from r); cases e; rfl
 | str x => obtain ⟨t, e⟩ := (show ∃ t, u = Value.str x t from r); cases e; rfl
 | byt b => obtain ⟨t, e⟩ := (show ∃ t, u = Value.bytes b t from r); cases e; rfl
 | flt b => obtain ⟨t, e⟩ := (show ∃ t, u = Value.float b t from r); cases e; rfl
 | ref a => cases (show u = Value.ref a from r); rfl
 | ty n => cases (show u = Value.type n from r); rfl
noncomputable def NoAttr (K : PySem.W.Frag) (C : Addr) (f : Str) : Prop := PySem.W.findIn K (.ref C) f = some none
section
variable {X : Cx} {pins : List (Addr × Obj)} {σ : St} {H : Hp} {s : Shared} {a C dx : Addr} {fs : List (Str × V)} {f : Str} {v : V} {A : Around} {E : Value -> Shared -> Prop}
theorem attr_of {prog : Program} {w : World} {env : Env} {e : Expr} {f : Str} {pos : Pos} {s : Shared} {Q : Value -> Shared -> Prop} (hb : attributeBase e f env (eval e env) = eval e env)
  (h : wpAny (model prog w) A (eval e env) (fun o s₁ => wpAny (model prog w) A (getAttr o f true) Q E s₁) E s) : wpAny (model prog w) A (eval (.Attribute e f pos) env) Q E s :=
 Attribute_any_ h (by rw [arm_eval_Attribute, hb])
end
end L2
namespace L2
open PySem PySem.Spec PyProof.Rows
structure Room (k : Nat) (A : Around) : Prop where
 hd : A.handled = none
 dp : A.depth + 3 * k + 5 < recursionLimit
 un : A.units + 16 * k + 200 < cLine
 gd : A.guards = some []
theorem Room.mono {j k : Nat} {A : Around} (r : Room k A) (h : j <= k) : Room j A := ⟨r.hd, by have := r.dp; omega, by have := r.un; omega, r.gd⟩
theorem Room.deeper {k : Nat} {A : Around} (r : Room (k + 1) A) (env : Env) : Room k (A.deeper env) :=
 ⟨r.hd, by have := r.dp; show A.depth + 1 + 3 * k + 5 < _; omega, by have := r.un; show A.units + 3 + 16 * k + 200 < _; omega, r.gd⟩
theorem make_depth {A : Around} {C : Addr} {us : List Value} {kw : List (Str × Value)} : (A.under (.builtin "type.__call__" ⟨.ref C :: us, kw⟩)).depth = A.depth + 1 := by
 first | rfl | simp [Around.under, Code.weight, Code.isCreation, Code.isGuard, Code.isCaller, Code.frames, Code.isFrame, guardIds]
theorem make_units {A : Around} {C : Addr} {us : List Value} {kw : List (Str × Value)} : (A.under (.builtin "type.__call__" ⟨.ref C :: us, kw⟩)).units = A.units + 1 := by
 first | rfl | simp [Around.under, Code.cUnits, Code.frames, Code.isFrame]
theorem Room.make {k : Nat} {A : Around} (r : Room (k + 1) A) (C : Addr) (us : List Value) (kw : List (Str × Value)) : Room k (A.under (.builtin "type.__call__" ⟨.ref C :: us, kw⟩)) :=
 ⟨r.hd, by have := r.dp; rw [make_depth]; omega, by have := r.un; rw [make_units]; omega, by first | exact r.gd | (simpa [Around.under, Code.isGuard, guardIds] using r.gd)⟩
theorem Room.depth {k : Nat} {A : Around} (r : Room k A) : A.depth < recursionLimit := by have := r.dp; omega
noncomputable def tNil : TA := fun _ H Q => Q [] H
noncomputable def tCons (ta : TE) (tr : TA) : TA := fun σ H Q => ta σ H fun x H1 => tr σ H1 fun xs H2 => Q (x :: xs) H2
section
variable {X : Cx} {e : Expr} {es : List Expr} {te : TE} {t : TA} {pos : Pos}
theorem pa_nil : PA X [] tNil := .mk <| fun _ _ _ _ H Q I h => Calls.spliced_nil ⟨[], H, I, .nil, h⟩
theorem pa_cons (ha : PE X e te) (hr : PA X es t) (hs : starEach (e :: es) X.env = (false, eval e X.env) :: starEach es X.env := by rfl) : PA X (e :: es) (tCons te t) := by
 (first | refine ⟨?_⟩ | skip); intro pos pins s σ H Q I h
 rw [hs]
 show wpAny _ _ (spliced ((false, eval e X.env) :: backTo pos (starEach es X.env))) _ _ s
 refine Calls.spliced_cons (thn (ha pins s σ H _ I h) fun u s1 ⟨x, H1, I1, r1, q1⟩ => ?_)
 exact thn (hr pos pins s1 σ H1 _ I1 q1) fun us s2 ⟨xs, H2, I2, r2, q2⟩ => ⟨x :: xs, H2, I2, .cons r1 r2, q2⟩
end
abbrev Sp := List V -> Hp -> VK -> XK -> Prop
abbrev CXT := List Env -> Hp -> Shared -> XK -> Value -> Shared -> Prop
structure Env0 (P : Program) (w : World) (K : PySem.W.Frag) (mg : Str -> Option Value) (base : Heap) (A : Around) (outer : List Env) (s : Shared) (H : Hp) : Prop where
 frames : A.frames = some outer
 mod : Mod K mg base
 bs : ∀ b o, base.get? b = some o -> s.heap.get? b = some o /\ H b = none
 bsz : base.objs.size <= s.heap.objs.size
 funs : s.heap.FunFrames base outer
 frf : ∀ b ∈ frs outer, H b = none
 hok : HOk P w H s.heap
 bare : AllBare s.gens
noncomputable def CE (outer : List Env) (P : Program) (w : World) (H : Hp) (s : Shared) (Q : VK) (u : Value) (s' : Shared) : Prop :=
 ∃ v H', s'.os = s.os /\ AllBare s'.gens /\ Un (frs outer) [] H H' s.heap s'.heap /\ HOk P w H' s'.heap /\ RelV v u /\ Q v H'
noncomputable def CR (CX : CXT) (outer : List Env) (P : Program) (w : World) (H : Hp) (s : Shared) (Q : VK) (E : XK) (r : Result) (s' : Shared) : Prop :=
 match r with
 | .ok (.ret u) => CE outer P w H s Q u s'
 | .ok _ => False
 | .error e => CX outer H s E e s'
structure FnOk (P : Program) (w : World) (K : PySem.W.Frag) (mg : Str -> Option Value) (base : Heap) (CX : CXT) (k : Nat) (f : Addr) (fd : FuncData) (ps : List Str) (sp : Sp) : Prop where
 len : ∀ vs H Q E, sp vs H Q E -> vs.length = ps.length
 run : ∀ (A : Around) (outer : List Env) (s : Shared) (H : Hp) (args : Args) (us : List Value) (vs : List V) (Q : VK) (E : XK), Room k A -> Env0 P w K mg base A outer s H -> BindsTo s fd args (ps.zip us) -> Vals vs us -> sp vs H Q E ->
  codeAny (model P w) A (.call (.ref f) args) (CR CX outer P w H s Q E) s
theorem FnOk.imp {P : Program} {w : World} {K : PySem.W.Frag} {mg : Str -> Option Value} {base : Heap} {CX : CXT} {k : Nat} {f : Addr} {fd : FuncData} {ps : List Str} {sp sp' : Sp} (F : FnOk P w K mg base CX k f fd ps sp)
  (h : ∀ vs H Q E, sp' vs H Q E -> sp vs H Q E) : FnOk P w K mg base CX k f fd ps sp' :=
 ⟨fun vs H Q E q => F.len vs H Q E (h _ _ _ _ q), fun A outer s H args us vs Q E hr he hb hv hs => F.run A outer s H args us vs Q E hr he hb hv (h _ _ _ _ hs)⟩
theorem Env0.make {P : Program} {w : World} {K : PySem.W.Frag} {mg : Str -> Option Value} {base : Heap} {A : Around} {outer : List Env} {s : Shared} {H : Hp} (e : Env0 P w K mg base A outer s H) (C : Addr) (us : List Value) (kw : List (Str × Value)) :
  Env0 P w K mg base (A.under (.builtin "type.__call__" ⟨.ref C :: us, kw⟩)) outer s H := ⟨by first | exact e.frames | (simpa [Around.under, Code.envs, Code.isFrame, pushEnvs] using e.frames), e.mod, e.bs, e.bsz, e.funs, e.frf, e.hok, e.bare⟩
section
variable {X : Cx} {pins : List (Addr × Obj)} {σ : St} {H : Hp} {s s' : Shared}
theorem Inv.env0 (I : Inv X pins σ H s) : Env0 X.prog X.w X.K X.mg X.base X.A X.stack s H :=
 ⟨I.ok.frames, I.ok.mod, I.bs, Nat.le_trans I.ok.bsz I.sz, I.stack, I.stkFree, I.hok, I.bare⟩
theorem Inv.after {Q : VK} {u : Value} (I : Inv X pins σ H s) (h : CE X.stack X.prog X.w H s Q u s') : EP X pins σ Q u s' := by
 obtain ⟨v, H', os, bare, un, hok, r, q⟩ := h
 obtain ⟨hh, g, d, t, os'⟩ := s'
 obtain rfl : os' = s.os := os
 exact ⟨v, H', I.call (h' := hh) (g' := g) (d' := d) (t' := t) (ch := []) un hok bare (fun b z => absurd z (by simp)), r, q⟩
end
noncomputable def tCall (sp : Sp) (dvs : List V) (E : XK) (t : TA) : TE := fun σ H Q => t σ H fun vs H1 => sp (vs ++ dvs) H1 Q E
noncomputable def Binds (K : PySem.W.Frag) (fd : FuncData) (ps : List Str) (ds : List Value) : Prop :=
 ∀ (s : Shared) (us : List Value), K.In s.heap -> (us ++ ds).length = ps.length -> BindsTo s fd ⟨us, []⟩ (ps.zip (us ++ ds))
theorem Binds.all {K : PySem.W.Frag} {fd : FuncData} {ps : List Str} (h : ∀ us : List Value, us.length = ps.length -> bindArgs fd ⟨us, []⟩ = pure (ps.zip us)) : Binds K fd ps [] := fun s us _ hl => by
 rw [List.append_nil] at hl ⊢
 exact .of_eq (h us hl)
noncomputable def Passes (CX : CXT) (X : Cx) (E : XK) : Prop := ∀ (pins : List (Addr × Obj)) (σ : St) (H : Hp) (s : Shared) (e : Value) (s' : Shared), Inv X pins σ H s -> CX X.stack H s E e s' -> X.xe e s'
section
variable {X : Cx} {CX : CXT} {k : Nat} {f C : Addr} {fd : FuncData} {ps : List Str} {sp : Sp} {dvs : List V} {ds : List Value} {E : XK} {x m : Str} {p pos apos : Pos} {e o : Expr} {es : List Expr} {ta : TE} {t : TA}
theorem run_fn {pins : List (Addr × Obj)} {σ : St} {H : Hp} {s : Shared} {Q : VK} {us : List Value} {vs : List V} (F : FnOk X.prog X.w X.K X.mg X.base CX k f fd ps sp) (hr : Room k X.A) (hb : Binds X.K fd ps ds) (hd : Vals dvs ds) (hx : Passes CX X E)
  (I : Inv X pins σ H s) (r : Vals vs us) (h : sp (vs ++ dvs) H Q E) : wpAny (model X.prog X.w) X.A (call (.ref f) us) (EP X pins σ Q) X.xe s := by
 have r2 : Vals (vs ++ dvs) (us ++ ds) := r.append hd
 have hl : (us ++ ds).length = ps.length := by rw [← r2.length]; exact F.len _ _ _ _ h
 refine wpAny_call (codeAny_mono (F.run X.A X.stack s H ⟨us, []⟩ (us ++ ds) (vs ++ dvs) Q E hr I.env0 (hb s us I.kIn hl) r2 h) fun r s' hq => ?_)
 cases r with
 | error e => exact hx pins σ H s e s' I hq
 | ok fl =>
  cases fl with
  | ret u => exact I.after hq
  | next => exact False.elim hq
  | brk => exact False.elim hq
  | cont => exact False.elim hq
theorem pe_call (F : FnOk X.prog X.w X.K X.mg X.base CX k f fd ps sp) (hr : Room k X.A) (hg : Gl X x) (hm : X.mg x = some (.ref f)) (hk : PySem.W.keepIn X.K (.ref f) = true) (hb : Binds X.K fd ps ds) (hd : Vals dvs ds) (hx : Passes CX X E)
  (ha : PA X (e :: es) t) (hdb : (x == ("__debug__" : Str)) = false := by decide) (he : starEach (e :: es) X.env = (false, eval e X.env) :: starEach es X.env := by rfl) (hpl : (backTo pos (starEach es X.env)).any (·.1) = false := by rfl) :
  PE X (.Call (.Name x p) (e :: es) [] pos) (tCall sp dvs E t) := by
 (first | refine ⟨?_⟩ | skip); intro pins s σ H Q I h
 refine wpAny_Call_Name_kw (ld_glob I hg hm ?_ hdb)
 refine PySem.W.callWith_K (h₀ := X.base) I.ok.mod.kin hk (thn (ha pos pins s σ H _ I h) fun us s1 ⟨vs, H1, I1, r, q⟩ => ⟨I1.kIn, ?_⟩) he hpl
 exact run_fn F hr hb hd hx I1 r q
end
structure FnScope (N P : List Str) (sc : Scope) : Prop where
 kind : sc.kind = .function
 co : sc.isCoroutine = false
 gen : sc.isGenerator = false
 nd : N.Nodup
 pre : N.take P.length = P
 par : ∀ x ∈ P, sc.names.lookup x = some .local \/ sc.names.lookup x = some .cell
 nofree : ∀ y ∈ sc.names, y.2 ≠ .free
theorem bindL_out {kindOf : Str -> Option NameKind} {x : Str} : ∀ {binds : List (Str × Value)} {m : Str -> Option Value}, (∀ v, (x, v) ∉ binds) -> bindL kindOf binds m x = m x
 | [], _, _ => rfl
 | (n, v) :: r, m, h => by
  unfold bindL
  rw [bindL_out fun w hw => h w (List.mem_cons_of_mem _ hw)]
  split
  ·have : x ≠ n := by rintro rfl; exact h v List.mem_cons_self
   simp [this]
  ·rfl
theorem bindC_out {kindOf : Str -> Option NameKind} {x : Str} : ∀ {binds : List (Str × Value)} {m : Str -> Option Value}, (∀ v, (x, v) ∉ binds) -> bindC kindOf binds m x = m x
 | [], _, _ => rfl
 | (n, v) :: r, m, h => by
  unfold bindC
  rw [bindC_out fun w hw => h w (List.mem_cons_of_mem _ hw)]
  split
  ·rfl
  ·have : x ≠ n := by rintro rfl; exact h v List.mem_cons_self
   simp [this]
theorem bindL_get {kindOf : Str -> Option NameKind} {x : Str} {v : Value} : ∀ {P : List Str} {vs : List Value} {i : Nat} {m : Str -> Option Value}, P.Nodup -> P[i]? = some x -> vs[i]? = some v -> kindOf x = some .local ->
  bindL kindOf (P.zip vs) m x = some v
 | [], _, _, _, _, h, _, _ => by simp at h
 | _ :: _, [], _, _, _, _, h, _ => by simp at h
 | p :: P, w :: vs, 0, m, nd, h1, h2, hk => by
  simp at h1 h2; subst h1; subst h2
  show bindL kindOf ((p, w) :: P.zip vs) m p = _
  unfold bindL
  rw [bindL_out fun v hv => (List.nodup_cons.mp nd).1 (List.of_mem_zip hv).1, if_pos hk]
  simp
 | p :: P, w :: vs, i + 1, m, nd, h1, h2, hk => by
  show bindL kindOf ((p, w) :: P.zip vs) m x = _
  unfold bindL
  exact bindL_get (i := i) (List.nodup_cons.mp nd).2 (by simpa using h1) (by simpa using h2) hk
theorem bindC_get {kindOf : Str -> Option NameKind} {x : Str} {v : Value} : ∀ {P : List Str} {vs : List Value} {i : Nat} {m : Str -> Option Value}, P.Nodup -> P[i]? = some x -> vs[i]? = some v -> kindOf x ≠ some .local ->
  bindC kindOf (P.zip vs) m x = some v
 | [], _, _, _, _, h, _, _ => by simp at h
 | _ :: _, [], _, _, _, _, h, _ => by simp at h
 | p :: P, w :: vs, 0, m, nd, h1, h2, hk => by
  simp at h1 h2; subst h1; subst h2
  show bindC kindOf ((p, w) :: P.zip vs) m p = _
  unfold bindC
  rw [bindC_out fun v hv => (List.nodup_cons.mp nd).1 (List.of_mem_zip hv).1, if_neg hk]
  simp
 | p :: P, w :: vs, i + 1, m, nd, h1, h2, hk => by
  show bindC kindOf ((p, w) :: P.zip vs) m x = _
  unfold bindC
  exact bindC_get (i := i) (List.nodup_cons.mp nd).2 (by simpa using h1) (by simpa using h2) hk
noncomputable def start (N : List Str) (vs : List V) : St := vs.map some ++ List.replicate (N.length - vs.length) none
noncomputable def cxOf (CX : CXT) (P : Program) (w : World) (K : PySem.W.Frag) (mg : Str -> Option Value) (base : Heap) (N : List Str) (qual : Str) (scope : Scope) (f : Addr) (cd : Value) (A : Around) (outer : List Env) (s : Shared) (H : Hp) (E : XK) : Cx where
 prog := P
 w := w
 K := K
 mg := mg
 base := base
 A := A.deeper (envOfC qual scope s.heap.objs.size f cd)
 N := N
 s₀ := s
 H₀ := H
 env := envOfC qual scope s.heap.objs.size f cd
 outer := outer
 stack := envOfC qual scope s.heap.objs.size f cd :: outer
 ex := []
 calm := true
 fn := fun _ => true
 pn := []
 xe := fun e s' => wpAny (model P w) (A.deeper (envOfC qual scope s.heap.objs.size f cd)) (leaving (envOfC qual scope s.heap.objs.size f cd) e) (fun _ s'' => CX outer H s E e s'') (fun e' s'' => CX outer H s E e' s'') s'
theorem cell_has {sc : Scope} {n : Nat} {x : Str} (h : sc.names.lookup x = some .cell) : ∃ c, (cellsFrom n sc.names []).lookup x = some c := by
 have q := PySem.W.cellsFrom_some sc.names n [] (.inl h)
 exact Option.isSome_iff_exists.mp q
theorem inv_start {CX : CXT} {P : Program} {w : World} {K : PySem.W.Frag} {mg : Str -> Option Value} {base : Heap} {N ps : List Str} {qual : Str} {scope : Scope} {f : Addr} {cd : Value} {A : Around} {outer : List Env} {s s1 : Shared} {H : Hp} {E : XK} {us : List Value} {vs : List V}
  (S : FnScope N ps scope) (hd : A.handled = none) (e0 : Env0 P w K mg base A outer s H) (hl : vs.length = ps.length) (r : Vals vs us)
  (x : InCallC s s.heap.objs.size (bindL (envOfC qual scope s.heap.objs.size f cd).kindOf (ps.zip us) fun _ => none) (cellsFrom (s.heap.objs.size + 1) scope.names []) (bindC (envOfC qual scope s.heap.objs.size f cd).kindOf (ps.zip us) fun _ => none) s1) :
  Inv (cxOf CX P w K mg base N qual scope f cd A outer s H E) [] (start N vs) H s1 := by
 have hpl : ps.length <= N.length := by have := congrArg List.length S.pre; rw [List.length_take] at this; omega
 obtain ⟨h1, tk, rfl, hk⟩ := x.done
 have noA : ∀ b : Addr, b ∉ (cxOf CX P w K mg base N qual scope f cd A outer s H E).ex := fun b z => absurd (show b ∈ ([] : List Addr) from z) (by simp)
 refine ⟨⟨e0.mod, S.kind, rfl, rfl, Nat.le_refl _, fun y z c h1 h2 => ?_, fun y hy => ?_, fun y c _ h => ?_, fun _ => hd, Around.frames_deeper e0.frames, .inr ⟨rfl, rfl⟩, fun b z => absurd z (noA b), e0.bs, e0.bsz, fun b _ _ => noA b, fun b z => absurd z (noA b), e0.funs, e0.frf⟩,
  rfl, e0.bare, Un.kept hk, ⟨_, x.toInCall.ns, fun i y v h1 h2 h3 => ?_⟩, fun y c h => ⟨_, x.cell y c h⟩, e0.hok.fresh (Nat.le_refl _), fun y c h => ?_, fun p hp => absurd (show p ∈ ([] : List (Addr × Obj)) from hp) (by simp), e0.hok.kept hk, ?_⟩
 ·exact name_of_addr x.apart (PySem.mem_of_lookup h1) (PySem.mem_of_lookup h2)
 ·have hy : scope.names.lookup y = some .cell \/ scope.names.lookup y = some .free := hy
  rcases hy with hy | hy
  ·exact cell_has hy
  ·exact absurd rfl (S.nofree _ (PySem.mem_of_lookup hy))
 ·exact Nat.le_of_lt (x.above y c (PySem.mem_of_lookup h))
 ·have hi : i < vs.length := by
   unfold start at h2
   by_cases hi : i < vs.length
   ·exact hi
   ·rw [List.getElem?_append_right (by simpa using hi)] at h2
    rw [List.getElem?_replicate] at h2
    split at h2 <;> cases h2
  have ha : vs[i]? = some v := by
   unfold start at h2
   rw [List.getElem?_append_left (by simpa using hi), List.getElem?_map] at h2
   cases e : vs[i]? with
   | none => rw [e] at h2; cases h2
   | some a => rw [e] at h2; cases h2; rfl
  obtain ⟨u, hu, rv⟩ := r.get ha
  have hp : ps[i]? = some y := by
   rw [← S.pre, List.getElem?_take_of_lt (by omega)]; exact h1
  have ndP : ps.Nodup := by rw [← S.pre]; exact S.nd.sublist (List.take_sublist _ _)
  refine ⟨u, rv, ?_⟩
  rcases S.par y (List.mem_of_getElem? hp) with k | k
  ·exact .inl ⟨k, bindL_get ndP hp hu k⟩
  ·obtain ⟨c, e⟩ := cell_has (n := s.heap.objs.size + 1) k
   refine .inr ⟨.inl k, c, e, ?_⟩
   have q := x.cell y c e
   rw [bindC_get ndP hp hu (by show scope.names.lookup y ≠ _; rw [k]; decide)] at q
   exact q
 ·exact e0.hok.fresh (Nat.le_of_lt (x.above y c (PySem.mem_of_lookup h)))
 ·unfold start
  show _ = N.length
  rw [List.length_append, List.length_map, List.length_replicate]
  omega
theorem fn_of {CX : CXT} {P : Program} {w : World} {K : PySem.W.Frag} {mg : Str -> Option Value} {base : Heap} {k : Nat} {f : Addr} {name qual : Str} {params : Arguments} {body : List Stmt} {scope : Scope} {dV kV doc pm cdv ct oc : Value} {an od : Option Addr}
  {osl : Array (Option Value)} {N ps : List Str} {sp : Sp} (lk : K.lookup f = some ⟨oc, od, .func (PySem.W.fnOf name qual params body scope dV kV doc pm an cdv ct), osl⟩) (hcd : PySem.W.codeIn K cdv qual = true) (S : FnScope N ps scope)
  (len : ∀ vs H Q E, sp vs H Q E -> vs.length = ps.length)
  (hbody : ∀ (A : Around) (outer : List Env) (s : Shared) (H : Hp) (vs : List V) (Q : VK) (E : XK), Room k (A.deeper (envOfC qual scope s.heap.objs.size f cdv)) -> sp vs H Q E ->
   ∃ t, PSs (cxOf CX P w K mg base N qual scope f cdv A outer s H E) body t /\ t { nx := fun _ H' => Q .non H', rt := Q } (start N vs) H) :
  FnOk P w K mg base CX (k + 1) f (PySem.W.fnOf name qual params body scope dV kV doc pm an cdv ct) ps sp := by
 refine ⟨len, fun A outer s H args us vs Q E hr e0 hb r hsp => ?_⟩
 have hl := len _ _ _ _ hsp
 have KX : K.In s.heap := e0.mod.kin.keeps fun b o e => (e0.bs b o e).1
 have lim : s.heap.NoLimit := e0.mod.nolimit.keeps fun b o e => (e0.bs b o e).1
 have hkind : ∀ y ∈ ps.zip us, scope.names.lookup y.1 = some .local \/ (scope.names.lookup y.1 = some .cell /\ ((cellsFrom (s.heap.objs.size + 1) scope.names []).lookup y.1).isSome = true) := fun ⟨n, v⟩ hy => by
  rcases S.par n (List.of_mem_zip hy).1 with q | q
  ·exact .inl q
  ·exact .inr ⟨q, PySem.W.cellsFrom_some _ _ _ (.inl q)⟩
 refine codeAny_call_function hr.depth (KX _ _ lk) rfl S.co S.gen rfl (PySem.W.codeRec_of KX hcd) (hb _ _ _ _ ?_)
 refine wpAny_newFunctionEnv_cells S.kind hkind fun env he s1 x => ?_
 subst he
 refine ⟨lim.keeps x.toInCall.keep, codeAny_func ?_⟩
 obtain ⟨t, ht, hq⟩ := hbody A outer s H vs Q E (hr.deeper _) hsp
 have I : Inv (cxOf CX P w K mg base N qual scope f cdv A outer s H E) [] (start N vs) H s1 := inv_start S hr.hd e0 hl r x
 refine wpAny_mono (ht [] s1 (start N vs) H _ I hq) (fun fl s' hs => ?_) fun e s' hs => hs
 have fin : ∀ {σ' : St} {H' : Hp} {v : V} {u : Value}, Inv (cxOf CX P w K mg base N qual scope f cdv A outer s H E) [] σ' H' s' -> RelV v u -> Q v H' -> CE outer P w H s Q u s' :=
  fun {σ' H' v u} J rv q => ⟨v, H', J.os, J.bare, J.base, J.hok, rv, q⟩
 cases fl with
 | ret u =>
  obtain ⟨v, σ', H', J, rv, q⟩ := hs
  exact fin J rv q
 | next =>
  obtain ⟨σ', H', J, q⟩ := hs
  exact fin (v := V.non) (u := Value.none) J rfl q
 | brk =>
  obtain ⟨_, _, _, q⟩ := hs
  exact False.elim q
 | cont =>
  obtain ⟨_, _, _, q⟩ := hs
  exact False.elim q
end L2
namespace L2
open PySem PySem.Spec PyProof.Rows
section
variable {X : Cx} {x : Str} {p pos : Pos} {e : Expr} {es : List Expr} {t : TA} {id T : String} {r : List V -> Hp -> VK -> Prop}
noncomputable def tCB (r : List V -> Hp -> VK -> Prop) (t : TA) : TE := fun σ H Q => t σ H fun vs H1 => r vs H1 Q
theorem pe_callB (hc : CallR X (.builtin id) r) (hg : Gl X x) (hm : X.mg x = none) (hv : bootBuiltins x = some (.builtin id)) (ha : PA X (e :: es) t) (hn : x ≠ "__name__" := by decide) (hdb : (x == ("__debug__" : Str)) = false := by decide)
  (he : starEach (e :: es) X.env = (false, eval e X.env) :: starEach es X.env := by rfl) (hpl : (backTo pos (starEach es X.env)).any (·.1) = false := by rfl) : PE X (.Call (.Name x p) (e :: es) [] pos) (tCB r t) := by
 (first | refine ⟨?_⟩ | skip); intro pins s σ H Q I h
 refine wpAny_Call_Name_kw (ld_blt I hg hm hv ?_ hn hdb)
 exact PyProof.Rows.callWith_builtin1 (thn (ha pos pins s σ H _ I h) fun us s1 ⟨vs, H1, I1, r1, q1⟩ => hc pins s1 σ H1 vs us Q I1 r1 q1) he hpl
theorem pe_callTy (hc : CallR X (.type T) r) (hg : Gl X x) (hm : X.mg x = none) (hv : bootBuiltins x = some (.type T)) (ha : PA X (e :: es) t) (hn : x ≠ "__name__" := by decide) (hdb : (x == ("__debug__" : Str)) = false := by decide)
  (he : starEach (e :: es) X.env = (false, eval e X.env) :: starEach es X.env := by rfl) (hpl : (backTo pos (starEach es X.env)).any (·.1) = false := by rfl) : PE X (.Call (.Name x p) (e :: es) [] pos) (tCB r t) := by
 (first | refine ⟨?_⟩ | skip); intro pins s σ H Q I h
 refine wpAny_Call_Name_kw (ld_blt I hg hm hv ?_ hn hdb)
 exact PyProof.Rows.callWith_type1 (thn (ha pos pins s σ H _ I h) fun us s1 ⟨vs, H1, I1, r1, q1⟩ => hc pins s1 σ H1 vs us Q I1 r1 q1) he hpl
end
end L2
namespace HT
open PySem PyProof.Rows
section
variable {prog : Program} {w : World} {A : Around} {E : Value -> Shared -> Prop} {s : Shared}
theorem cat_tup {t b : Addr} {vs ws : List Value} {Q : Value -> Shared -> Prop} (ht : IsTup s.heap t vs.toArray) (hb : IsTup s.heap b ws.toArray) (hv : vs ≠ [])
  (h1 : ws = [] -> Q (.ref t) s) (h2 : ws ≠ [] -> Q (.ref s.heap.objs.size) { s with heap := s.heap.push { cls := .type "tuple", data := .seq (vs ++ ws).toArray } })
  (hsz : vs.length + ws.length <= sizeLine) : wpAny (model prog w) A (binaryOp .Add (.ref t) (.ref b)) Q E s := by
 obtain ⟨⟨cls, dd, data, sl⟩, ho, hc, n, hd⟩ := id ht
 obtain ⟨⟨cls2, dd2, data2, sl2⟩, ho2, hc2, n2, hd2⟩ := id hb
 simp only at hc hd hc2 hd2
 subst hc hd hc2 hd2
 have e : vs.toArray ++ ws.toArray = (vs ++ ws).toArray := by simp
 by_cases hw : ws = []
 ·exact concat_meets ⟨_, ho, rfl⟩ ⟨_, ho2, rfl⟩ noFill_tuple_add seq_tuple_add PySem.F.slot_tuple_add PySem.F.entry_tuple_add (PySem.F.args_tuple_add_2 _ _)
   (tuple_addW1 t b vs.toArray ws.toArray n n2 dd dd2 sl sl2 (by simpa using hv) (by simp [hw])) ⟨ho, ho2, h1 hw⟩
 ·refine concat_meets ⟨_, ho, rfl⟩ ⟨_, ho2, rfl⟩ noFill_tuple_add seq_tuple_add PySem.F.slot_tuple_add PySem.F.entry_tuple_add (PySem.F.args_tuple_add_2 _ _)
   (tuple_addW2 t b vs.toArray ws.toArray n n2 dd dd2 sl sl2 (by simpa using hv) (by simpa using hw) (by rw [List.size_toArray, List.size_toArray]; exact hsz)) ⟨ho, ho2, ?_⟩
  rw [e]
  exact h2 hw
noncomputable def sIx (n d : Nat) : Option Int -> Nat
 | none => d
 | some v => if v < 0 then (v + (n : Int)).toNat else min v.toNat n
theorem sIx_none (n d : Nat) : sIx n d none = d := rfl
theorem sIx_nat (n d k : Nat) : sIx n d (some (k : Int)) = min k n := by
 show (if (k : Int) < 0 then ((k : Int) + (n : Int)).toNat else min (k : Int).toNat n) = min k n
 rw [if_neg (by omega), Int.toNat_natCast]
theorem sIx_le (n d : Nat) (hd : d <= n) (o : Option Int) : sIx n d o <= n := by
 cases o with
 | none => exact hd
 | some v =>
  show (if v < 0 then (v + (n : Int)).toNat else min v.toNat n) <= n
  by_cases hv : v < 0
  ·rw [if_pos hv]; omega
  ·rw [if_neg hv]; exact Nat.min_le_right _ _
theorem clip_eq (v : Int) (n d : Nat) : (if v < 0 then max (v + (n : Int)) 0 else min v (n : Int)) = ((sIx n d (some v) : Nat) : Int) := by
 show (if v < 0 then max (v + (n : Int)) 0 else min v (n : Int)) = (((if v < 0 then (v + (n : Int)).toNat else min v.toNat n) : Nat) : Int)
 by_cases hv : v < 0
 ·simp only [if_pos hv]; omega
 ·simp only [if_neg hv]; omega
theorem adjust_gen (lo hi : Option Int) (n : Nat) : Builtin.Slice.sliceAdjust lo hi 1 (n : Int) = (((sIx n 0 lo : Nat) : Int), ((sIx n n hi : Nat) : Int)) := by
 have h1 : ¬ ((1 : Int) < 0) := by omega
 unfold Builtin.Slice.sliceAdjust
 simp only [h1, if_false]
 refine Prod.ext ?_ ?_
 ·cases lo with
  | none => rfl
  | some v => exact clip_eq v n 0
 ·cases hi with
  | none => rfl
  | some v => exact clip_eq v n n
theorem places_gen (i j : Nat) : Builtin.Slice.slicePlaces (i : Int) (j : Int) 1 = j - i := by
 unfold Builtin.Slice.slicePlaces
 have h1 : (1 : Int) > 0 := by omega
 simp only [h1, if_true, Int.ediv_one]
 split <;> omega
theorem slicePart_ {v : Value} {o : Option Int} {Q : Option Int -> Shared -> Prop} (p : IsPart v o) (h : Q o s) : wpAny (model prog w) A (Builtin.Slice.slicePartIndex v) Q E s := by
 cases p with
 | none => exact slicePart_none h
 | int i t => exact slicePart_int h
theorem sliceApplied_gen {sl : Addr} {vl vu : Value} {lo hi : Option Int} {n : Nat} {Q : Int × Int × Nat -> Shared -> Prop} (hs : s.heap.IsSliceOf sl vl vu .none) (pl : IsPart vl lo) (pu : IsPart vu hi)
  (h : Q (((sIx n 0 lo : Nat) : Int), 1, sIx n n hi - sIx n 0 lo) s) : wpAny (model prog w) A (Builtin.Slice.sliceApplied (.ref sl) (pure (n : Int))) Q E s := by
 obtain ⟨os, hos, hcs, hds⟩ := id hs
 unfold Builtin.Slice.sliceApplied Builtin.Slice.sliceFields
 refine wpAny_bind (wpAny_bind (wpAny_field hos hds (x := vl) rfl (wpAny_bind (wpAny_field hos hds (x := vu) rfl (wpAny_bind (wpAny_field hos hds (x := .none) rfl (wpAny_pure ?_)))))))
 refine wpAny_bind (slicePart_none ?_)
 show wpAny _ _ (if ((1 : Int) == 0) = true then _ else _) _ _ s
 rw [if_neg (by decide)]
 refine wpAny_bind (slicePart_ pl (wpAny_bind (slicePart_ pu (wpAny_bind (wpAny_pure ?_)))))
 show wpAny _ _ (match Builtin.Slice.sliceAdjust lo hi 1 (n : Int) with | (lo, hi) => pure (lo, (1 : Int), Builtin.Slice.slicePlaces lo hi 1)) _ _ s
 rw [adjust_gen lo hi n]
 show wpAny _ _ (pure (((sIx n 0 lo : Nat) : Int), (1 : Int), Builtin.Slice.slicePlaces ((sIx n 0 lo : Nat) : Int) ((sIx n n hi : Nat) : Int) 1)) _ _ s
 rw [places_gen]
 exact wpAny_pure h
theorem pick_gen (xs : Array Value) (i k : Nat) : ((List.range k).filterMap fun (m : Nat) => xs[((i : Int) + (m : Int) * 1).toNat]?).toArray = ((xs.toList.drop i).take k).toArray := by
 have e : (fun (m : Nat) => xs[((i : Int) + (m : Int) * 1).toNat]?) = fun m => xs[i + m]? := by
  funext m
  have : ((i : Int) + (m : Int) * 1).toNat = i + m := by omega
  rw [this]
 rw [e]
 have := pick_run xs i k
 rw [List.filterMap_map] at this
 have e2 : ((fun x => xs[x]?) ∘ fun x => i + x) = fun m => xs[i + m]? := rfl
 rw [e2] at this
 rw [this]
theorem getItem_tuple_cut {t sl : Addr} {items : Array Value} {vl vu : Value} {lo hi : Option Int} {Q : Value -> Shared -> Prop} (ht : IsTup s.heap t items) (hs : s.heap.IsSliceOf sl vl vu .none) (pl : IsPart vl lo) (pu : IsPart vu hi)
  (hw : ¬ (sIx items.size 0 lo = 0 /\ sIx items.size items.size hi = items.size))
  (h : Q (.ref s.heap.objs.size) { s with heap := s.heap.push { cls := .type "tuple", data := .seq ((items.toList.drop (sIx items.size 0 lo)).take (sIx items.size items.size hi - sIx items.size 0 lo)).toArray } })
  (hsz : items.size <= sizeLine) : wpAny (model prog w) A (getItem (.ref t) (.ref sl)) Q E s := by
 have htake : sizeOk (.seq ((items.toList.drop (sIx items.size 0 lo)).take (sIx items.size items.size hi - sIx items.size 0 lo)).toArray) := by
  show ((items.toList.drop (sIx items.size 0 lo)).take (sIx items.size items.size hi - sIx items.size 0 lo)).toArray.size <= sizeLine
  rw [List.size_toArray, List.length_take, List.length_drop, Array.length_toList]
  omega
 have hj : sIx items.size items.size hi <= items.size := sIx_le _ _ (Nat.le_refl _) hi
 obtain ⟨os, hos, hcs, hds⟩ := id hs
 have hTs : s.TypeIs (.ref sl) "slice" := ⟨os, hos, hcs⟩
 unfold getItem
 try with_reducible refine wpAny_holding ?_
 first | refine wpAny_bind (wpAny_pure ?_) | skip
 refine wpAny_bind (wpAny_sequenceKey ht.typeIs (by decide) ?_)
 refine wpAny_bind (wpAny_callSpecial?_slot (name := Str.ofString "__getitem__") ht.typeIs PyProof.Rows.slot_tuple_getitem
  (wpAny_call_entry PyProof.Rows.slot_tuple_getitem ht.typeIs entry_tuple_getitem ?_ (args_tuple_getitem _ _)))
 show wpAny _ _ (Builtin.Tuple.tupleItemsOf (.ref t) >>= _) _ _ s
 refine wpAny_bind (tupleItemsOf_ ht ?_)
 refine wpAny_bind (wpAny_typeOf hTs ?_)
 rw [if_pos (by decide)]
 refine wpAny_bind (sliceApplied_gen hs pl pu ?_)
 have hno : ¬ ((((sIx items.size 0 lo : Nat) : Int) == 0 && (1 : Int) == 1 && (sIx items.size items.size hi - sIx items.size 0 lo) == items.size) = true) := by
  intro q
  rw [Bool.and_eq_true, Bool.and_eq_true] at q
  have q1 : ((sIx items.size 0 lo : Nat) : Int) = 0 := eq_of_beq q.1.1
  have q2 : sIx items.size items.size hi - sIx items.size 0 lo = items.size := eq_of_beq q.2
  exact hw ⟨by omega, by omega⟩
 show wpAny _ _ (if (((sIx items.size 0 lo : Nat) : Int) == 0 && (1 : Int) == 1 && (sIx items.size items.size hi - sIx items.size 0 lo) == items.size) = true then _ else _) _ _ s
 rw [if_neg hno, pick_gen]
 first
  | exact wpAny_bind (m := Builtin.Tuple.tupleExact _) (wpAny_newObj_type (wpAny_pure ⟨_, rfl, wpAny_pure h⟩) htake)
  | exact wpAny_bind (m := Builtin.Tuple.tupleExact _) (wpAny_newObj_type (wpAny_bind (wpAny_pure (wpAny_pure ⟨_, rfl, wpAny_pure h⟩))) htake)
  | exact wpAny_bind (wpAny_bind (m := Builtin.Tuple.tupleExact _) (wpAny_newObj_type (wpAny_pure (wpAny_pure ⟨_, rfl, wpAny_pure h⟩)) htake))
  | exact wpAny_bind (wpAny_bind (m := Builtin.Tuple.tupleExact _) (wpAny_newObj_type (wpAny_pure ⟨_, rfl, wpAny_pure h⟩) htake))
end
end HT
namespace L2
open PySem PySem.Spec PyProof.Rows
abbrev TO := St -> Hp -> (Option Int -> Hp -> Prop) -> Prop
noncomputable def PO (X : Cx) (e : Option Expr) (t : TO) : Prop :=
 ∀ (pins : List (Addr × Obj)) (s : Shared) (σ : St) (H : Hp) (Q : Option Int -> Hp -> Prop), Inv X pins σ H s -> t σ H Q ->
  wpAny (model X.prog X.w) X.A (evalPart e X.env) (fun u s' => ∃ o H', Inv X pins σ H' s' /\ IsPart u o /\ Q o H') X.xe s
noncomputable def tNoPart : TO := fun _ H Q => Q none H
noncomputable def tPart (t : TE) : TO := fun σ H Q => t σ H fun x H1 => ∃ i, x = .int i /\ Q (some i) H1
section
variable {X : Cx} {e : Expr} {te : TE} {lo hi : Option Expr} {tl th : TO} {pos p2 : Pos}
theorem po_none : PO X none tNoPart := by
 (first | refine ⟨?_⟩ | skip); intro pins s σ H Q I h
 rw [evalPart_none]
 exact wpAny_pure ⟨none, H, I, .none, h⟩
theorem po_some (h : PE X e te) : PO X (some e) (tPart te) := by
 (first | refine ⟨?_⟩ | skip); intro pins s σ H Q I hw
 rw [evalPart_some]
 refine thn (h pins s σ H _ I hw) fun u s1 ⟨x, H1, I1, r1, q1⟩ => ?_
 obtain ⟨i, rfl, q⟩ := q1
 obtain ⟨t, rfl⟩ := r1
 exact ⟨some i, H1, I1, .int i t, q⟩
noncomputable def SlR (X : Cx) (r : V -> Option Int -> Option Int -> Hp -> VK -> Prop) : Prop :=
 ∀ (pins : List (Addr × Obj)) (s : Shared) (σ : St) (H : Hp) (x : V) (v vl vu : Value) (lo hi : Option Int) (sl : Addr) (Q : VK), Inv X pins σ H s -> RelV x v -> s.heap.IsSliceOf sl vl vu .none -> IsPart vl lo -> IsPart vu hi -> r x lo hi H Q ->
  ∃ T id, typeLookup (.type T) "__getitem__" = pure (some (.builtin id)) /\ s.TypeIs v T /\ wpAny (model X.prog X.w) X.A (getItem v (.ref sl)) (EP X pins σ Q) X.xe s
theorem SlR.or {r r' : V -> Option Int -> Option Int -> Hp -> VK -> Prop} (h : SlR X r) (h' : SlR X r') : SlR X (fun x lo hi H Q => r x lo hi H Q \/ r' x lo hi H Q) := by
 (first | refine ⟨?_⟩ | skip); intro pins s σ H x v vl vu lo hi sl Q I rx hs pl pu q
 rcases q with q | q
 ·exact h pins s σ H x v vl vu lo hi sl Q I rx hs pl pu q
 ·exact h' pins s σ H x v vl vu lo hi sl Q I rx hs pl pu q
noncomputable def tSl (r : V -> Option Int -> Option Int -> Hp -> VK -> Prop) (te : TE) (tl th : TO) : TE := fun σ H Q => te σ H fun x H1 => tl σ H1 fun l H2 => th σ H2 fun u H3 => r x l u H3 Q
theorem pe_slice {r : V -> Option Int -> Option Int -> Hp -> VK -> Prop} (hr : SlR X r) (he : PE X e te) (hl : PO X lo tl) (hu : PO X hi th) : PE X (.Subscript e (.Slice lo hi none p2) pos) (tSl r te tl th) := by
 (first | refine ⟨?_⟩ | skip); intro pins s σ H Q I h
 refine Subscript_ (thn (he pins s σ H _ I h) fun v s1 ⟨x, H1, I1, r1, q1⟩ => ?_)
 refine wpAny_Slice (thn (hl pins s1 σ H1 _ I1 q1) fun vl s2 ⟨l, H2, I2, pl, q2⟩ => thn (hu pins s2 σ H2 _ I2 q2) fun vu s3 ⟨u, H3, I3, pu, q3⟩ => ?_)
 rw [evalPart_none]
 refine wpAny_pure ?_
 have I4 : Inv X pins σ H3 { s3 with heap := s3.heap.push { cls := .type "slice", data := .fields #[vl, vu, .none] } } := I3.kept (t' := s3.toks) fun b ob q => Heap.get?_push_of_some _ q
 obtain ⟨T, id, hT, ht, hg⟩ := hr pins { s3 with heap := s3.heap.push { cls := .type "slice", data := .fields #[vl, vu, .none] } } σ H3 x v vl vu l u s3.heap.objs.size Q I4 r1 (Heap.IsSliceOf.new ..) pl pu q3
 show wpAny (model X.prog X.w) X.A (subscriptTail e (.Slice lo hi none p2) v (.ref s3.heap.objs.size)) (EP X pins σ Q) X.xe { s3 with heap := s3.heap.push { cls := .type "slice", data := .fields #[vl, vu, .none] } }
 exact tail_any (ops := [.ref s3.heap.objs.size, v]) ht hT hg (by with_unfolding_all rfl)
noncomputable def cutV (xs : List V) (lo hi : Option Int) : List V := (xs.drop (HT.sIx xs.length 0 lo)).take (HT.sIx xs.length xs.length hi - HT.sIx xs.length 0 lo)
theorem cutV_length (xs : List V) (lo hi : Option Int) : (cutV xs lo hi).length <= xs.length := by
 unfold cutV
 rw [List.length_take, List.length_drop]
 omega
noncomputable def rSlT (K : PySem.W.Frag) : V -> Option Int -> Option Int -> Hp -> VK -> Prop := fun x lo hi H Q => ∃ a xs, x = .ref a /\ SqT K H a xs /\
 ¬ (HT.sIx xs.length 0 lo = 0 /\ HT.sIx xs.length xs.length hi = xs.length) /\ ∀ p, H p = none -> Q (.ref p) (upd H p (.tup (cutV xs lo hi)))
theorem sl_tup : SlR X (rSlT X.K) := by
 (first | refine ⟨?_⟩ | skip); intro pins s σ H x v vl vu lo hi sl Q I rx hs pl pu h
 obtain ⟨a, xs, rfl, hx, hw, q⟩ := h
 cases rx
 obtain ⟨its, r, ht, hz⟩ := I.tuple hx
 have hlen : its.toArray.size = xs.length := by rw [List.size_toArray]; exact r.length.symm
 refine ⟨"tuple", _, PyProof.Rows.slot_tuple_getitem.lookup, ht.typeIs, ?_⟩
 refine HT.getItem_tuple_cut ht hs pl pu (by rw [hlen]; exact hw) ?_ (by rw [hlen]; exact hz)
 rw [hlen]
 refine ⟨.ref s.heap.objs.size, _, I.laid (t' := s.toks) (o := .tup (cutV xs lo hi)) (fun b ob q => Heap.get?_push_of_some _ q) (Nat.le_refl _) ?_, rfl, q _ (I.hok.fresh (Nat.le_refl _))⟩
 exact ⟨Nat.le_trans (cutV_length xs lo hi) hz, _, (r.drop (HT.sIx xs.length 0 lo)).take (HT.sIx xs.length xs.length hi - HT.sIx xs.length 0 lo), TupX.new _ _⟩
noncomputable def rCatT (K : PySem.W.Frag) : R2 := fun x y H Q => ∃ a b xs ys, x = .ref a /\ y = .ref b /\ SqT K H a xs /\ SqT K H b ys /\ xs ≠ [] /\ xs.length + ys.length <= sizeLine /\
 (ys = [] -> Q (.ref a) H) /\ (ys ≠ [] -> ∀ p, H p = none -> Q (.ref p) (upd H p (.tup (xs ++ ys))))
theorem Vals.nil_iff {xs : List V} {us : List Value} (r : Vals xs us) : us = [] ↔ xs = [] := by
 cases r with
 | nil => simp
 | cons _ _ => simp
theorem op_catT : OpR X (binaryOp .Add) (rCatT X.K) := by
 (first | refine ⟨?_⟩ | skip); intro pins s σ H x y v u Q I rx ry h
 obtain ⟨a, b, xs, ys, rfl, rfl, ha, hb, hx, hz, q1, q2⟩ := h
 cases rx
 cases ry
 obtain ⟨its, r1, p1, _⟩ := I.tuple ha
 obtain ⟨its2, r2, p2, _⟩ := I.tuple hb
 refine HT.cat_tup p1 p2 (fun z => hx (r1.nil_iff.mp z)) (fun z => ⟨.ref a, H, I, rfl, q1 (r2.nil_iff.mp z)⟩) (fun z => ?_) (by rw [← r1.length, ← r2.length]; exact hz)
 refine ⟨.ref s.heap.objs.size, _, I.laid (t' := s.toks) (o := .tup (xs ++ ys)) (fun b ob q => Heap.get?_push_of_some _ q) (Nat.le_refl _) ?_, rfl, q2 (fun w => z (r2.nil_iff.mpr w)) _ (I.hok.fresh (Nat.le_refl _))⟩
 exact ⟨by rw [List.length_append]; exact hz, _, r1.append r2, TupX.new _ _⟩
end
end L2
namespace L2
open PySem PySem.Spec PyProof.Rows
noncomputable def ixN (n : Nat) (i : Int) : Option Nat := if 0 <= i then (if i < n then some i.toNat else none) else if -(n : Int) <= i then some (i + n).toNat else none
noncomputable def atI {α : Type} (xs : List α) (i : Int) : Option α := (ixN xs.length i).bind fun j => xs[j]?
theorem ixN_seq {n : Nat} {i : Int} {j : Nat} (h : ixN n i = some j) : seqIndex? i n = some j /\ j < n /\ -(n : Int) <= i /\ i < n := by
 unfold ixN at h
 by_cases h0 : 0 <= i
 ·rw [if_pos h0] at h
  by_cases h1 : i < n
  ·rw [if_pos h1] at h
   have e : i.toNat = j := Option.some.inj h
   exact ⟨by rw [seqIndex_of h0 h1, e], by omega, by omega, h1⟩
  ·rw [if_neg h1] at h; cases h
 ·rw [if_neg h0] at h
  by_cases h1 : -(n : Int) <= i
  ·rw [if_pos h1] at h
   have e : (i + n).toNat = j := Option.some.inj h
   exact ⟨by rw [seqIndex_neg (by omega) h1, e], by omega, h1, by omega⟩
  ·rw [if_neg h1] at h; cases h
theorem atI_get {α : Type} {xs : List α} {i : Int} {v : α} (h : atI xs i = some v) : ∃ j, seqIndex? i xs.length = some j /\ xs[j]? = some v /\ j < xs.length /\ -(xs.length : Int) <= i /\ i < xs.length := by
 unfold atI at h
 cases e : ixN xs.length i with
 | none => rw [e] at h; cases h
 | some j =>
  rw [e] at h
  obtain ⟨h1, h2, h3, h4⟩ := ixN_seq e
  exact ⟨j, h1, h, h2, h3, h4⟩
theorem atI_nat {α : Type} {xs : List α} {j : Nat} {v : α} (h : xs[j]? = some v) : atI xs (j : Int) = some v := by
 have hj : j < xs.length := (List.getElem?_eq_some_iff.mp h).1
 have e : ixN xs.length (j : Int) = some j := by
  unfold ixN
  rw [if_pos (by omega), if_pos (by omega)]; simp
 unfold atI; rw [e]; exact h
noncomputable def PlainIx (b : Expr) : Prop := ∀ o i, subscripted b false o i = operate [o, i] (getItem o i)
noncomputable def IxR (X : Cx) (r : R2) : Prop :=
 ∀ (value slice : Expr) (pins : List (Addr × Obj)) (s : Shared) (σ : St) (H : Hp) (x y : V) (v u : Value) (Q : VK), Inv X pins σ H s -> RelV x v -> RelV y u -> r x y H Q ->
  subscripted slice false v u = operate [v, u] (getItem v u) -> wpAny (model X.prog X.w) X.A (subscriptTail value slice v u) (EP X pins σ Q) X.xe s
section
variable {X : Cx} {a b : Expr} {ta tb : TE} {pos : Pos}
theorem IxR.or {r r' : R2} (h : IxR X r) (h' : IxR X r') : IxR X (fun x y H Q => r x y H Q \/ r' x y H Q) := by
 intro value slice pins s σ H x y v u Q I rx ry q hs
 rcases q with q | q
 ·exact h value slice pins s σ H x y v u Q I rx ry q hs
 ·exact h' value slice pins s σ H x y v u Q I rx ry q hs
theorem pe_ix {r : R2} (hr : IxR X r) (ha : PE X a ta) (hb : PE X b tb) (hs : PlainIx b) : PE X (.Subscript a b pos) (tOp r ta tb) := by
 (first | refine ⟨?_⟩ | skip); intro pins s σ H Q I h
 exact Subscript_ (binT ha hb I h fun v u s2 x y H2 I2 rx ry q => hr a b pins s2 σ H2 x y v u Q I2 rx ry q (hs _ _))
noncomputable def rIxL (K : PySem.W.Frag) : R2 := fun x y H Q => ∃ p xs i v, x = .ref p /\ y = .int i /\ SqL K H p xs /\ atI xs i = some v /\ Q v H
noncomputable def rIxT (K : PySem.W.Frag) : R2 := fun x y H Q => ∃ p xs i v, x = .ref p /\ y = .int i /\ SqT K H p xs /\ atI xs i = some v /\ Q v H
noncomputable def rIxS : R2 := fun x y H Q => ∃ z i c, x = .str z /\ y = .int i /\ z.length <= sizeLine /\ atI z.cps.toList i = some c /\ Q (.str ⟨#[c]⟩) H
theorem ix_list : IxR X (rIxL X.K) := by
 intro value slice pins s σ H x y v u Q I rx ry h hs
 obtain ⟨p, xs, i, z, rfl, rfl, hq, he, q⟩ := h
 cases rx
 obtain ⟨t, rfl⟩ := ry
 obtain ⟨its, r, pl, hz⟩ := I.list hq
 obtain ⟨j, h1, h2, h3, h4, h5⟩ := atI_get he
 obtain ⟨w, ew, rw'⟩ := r.get h2
 have hl := r.length
 have hn := line63
 have fin : EP X pins σ Q w s := ⟨z, H, I, rw', q⟩
 by_cases h0 : 0 <= i
 ·have hj : i.toNat = j := by
   rw [seqIndex_of h0 h5] at h1
   exact Option.some.inj h1
  exact item_listR pl.isList h0 (by omega) (by rw [hj]; simpa using ew) fin hs
 ·have hj : (i + (its.toArray.size : Int)).toNat = j := by
   rw [seqIndex_neg (by omega) h4] at h1
   rw [List.size_toArray, ← hl]
   exact Option.some.inj h1
  exact subscriptTail_builtinR (x := w) pl.isList.typeIs slot_list_getitem.lookup
   (wpAny_getItem_list_neg (Q := fun r s' => r = w /\ EP X pins σ Q r s') pl.isList (by omega) (by rw [List.size_toArray] <;> omega) (by omega) (by rw [hj]; simpa using ew) ⟨rfl, fin⟩) hs
theorem ix_tup : IxR X (rIxT X.K) := by
 intro value slice pins s σ H x y v u Q I rx ry h hs
 obtain ⟨p, xs, i, z, rfl, rfl, hq, he, q⟩ := h
 cases rx
 obtain ⟨t, rfl⟩ := ry
 obtain ⟨its, r, pl, hz⟩ := I.tuple hq
 obtain ⟨j, h1, h2, h3, h4, h5⟩ := atI_get he
 obtain ⟨w, ew, rw'⟩ := r.get h2
 have hl := r.length
 have hn := line63
 have fin : EP X pins σ Q w s := ⟨z, H, I, rw', q⟩
 exact subscriptTail_builtinR (x := w) pl.typeIs slot_tuple_getitem.lookup
  (getItem_tuple (j := j) (Q := fun r s' => r = w /\ EP X pins σ Q r s') pl (by omega) (by omega) (by rw [List.size_toArray, ← hl]; exact h1) (by simpa using ew) ⟨rfl, fin⟩) hs
theorem ix_str : IxR X rIxS := by
 intro value slice pins s σ H x y v u Q I rx ry h hs
 obtain ⟨z, i, c, rfl, rfl, hz, he, q⟩ := h
 obtain ⟨t, rfl⟩ := rx
 obtain ⟨t', rfl⟩ := ry
 obtain ⟨j, h1, h2, h3, h4, h5⟩ := atI_get he
 have hl : z.cps.toList.length = z.length := by simp [Str.length]
 rw [hl] at h1 h4 h5
 have hn := line63
 exact tail_any (typeIs_str s z t) slot_str_getitem.lookup (getItem_str (c := c) (by
  have e1 : decide (i < -(2 ^ 63 : Int)) = false := decide_eq_false (by omega)
  have e2 : decide (i ≥ 2 ^ 63) = false := decide_eq_false (by omega)
  rw [e1, e2, Bool.or_false]) (by rw [h1]; simpa using h2) ⟨.str ⟨#[c]⟩, H, I.tok _, ⟨_, rfl⟩, q⟩) hs
noncomputable def rIx (K : PySem.W.Frag) : R2 := fun x y H Q => rIxL K x y H Q \/ rIxT K x y H Q \/ rIxS x y H Q
theorem ix_seq : IxR X (rIx X.K) := ix_list.or (ix_tup.or ix_str)
theorem mapSeq_set (its : List Value) (n j : Nat) (u : Value) : Obj.mapSeq (·.setIfInBounds j u) { cls := .type "list", data := .seq its.toArray n } = { cls := .type "list", data := .seq (its.set j u).toArray n } := by
 simp [Obj.mapSeq]
theorem Inv.lst {pins : List (Addr × Obj)} {σ : St} {H : Hp} {s : Shared} {p : Addr} {xs : List V} (I : Inv X pins σ H s) (h : H p = some (.lst xs)) :
  ∃ (its : List Value) (n : Nat), Vals xs its /\ s.heap.get? p = some { cls := .type "list", data := .seq its.toArray n } /\ xs.length <= sizeLine := by
 obtain ⟨z, its, n, r, e⟩ := I.hok p _ h
 exact ⟨its, n, r, e, z⟩
theorem Inv.lstUpd {pins : List (Addr × Obj)} {σ : St} {H : Hp} {s : Shared} {p : Addr} {xs ys : List V} {its its' : List Value} {n n' : Nat} {f : Obj -> Obj} (I : Inv X pins σ H s) (h : H p = some (.lst xs))
  (ho : s.heap.get? p = some { cls := .type "list", data := .seq its.toArray n }) (hf : f { cls := .type "list", data := .seq its.toArray n } = { cls := .type "list", data := .seq its'.toArray n' }) (r : Vals ys its') (hz : ys.length <= sizeLine) (t : Nat) :
  Inv X pins σ (upd H p (.lst ys)) { s with heap := s.heap.update p f, toks := t } := by
 have e : (s.heap.update p f).get? p = some { cls := .type "list", data := .seq its'.toArray n' } := by
  rw [Heap.get?_update_self f ho (by rw [hf] <;> rfl), hf]
 refine I.write (x := p) (e := p) (by rw [h]; trivial) (.inl rfl) (fun b u hb q => (Heap.get?_update_other _ _ (Ne.symm hb)).trans q) ⟨_, e⟩ ?_
 exact ⟨hz, its', n', r, e⟩
noncomputable def rSetL : V -> V -> V -> Hp -> (Hp -> Prop) -> Prop := fun o i v H Q => ∃ p xs k j, o = .ref p /\ i = .int k /\ H p = some (.lst xs) /\ ixN xs.length k = some j /\ Q (upd H p (.lst (xs.set j v)))
theorem set_list : PSet X rSetL := by
 (first | refine ⟨?_⟩ | skip); intro pins s σ H o i v ov iv u Q I ro ri rv h
 obtain ⟨p, xs, k, j, rfl, rfl, hp, hj, q⟩ := h
 cases ro
 obtain ⟨t, rfl⟩ := ri
 obtain ⟨its, n, r, ho, hz⟩ := I.lst hp
 obtain ⟨h1, h2, h3, h4⟩ := ixN_seq hj
 have hl := r.length
 have hn := line63
 have I' : Inv X pins σ (upd H p (.lst (xs.set j v))) { s with heap := s.heap.update p (Obj.mapSeq (·.setIfInBounds j u)) } :=
  I.lstUpd hp ho (mapSeq_set its n j u) (r.set rv j) (by rw [List.length_set]; exact hz) s.toks
 by_cases h0 : 0 <= k
 ·have hk : k.toNat = j := by
   rw [seqIndex_of h0 h4] at h1
   exact Option.some.inj h1
  exact PySem.W.ki_setAt ho h0 (by omega) (by rw [List.size_toArray, ← hl]; exact h4) (by rw [hk]; exact ⟨_, I', q⟩)
 ·have hk : (k + (its.toArray.size : Int)).toNat = j := by
   rw [seqIndex_neg (by omega) h3] at h1
   rw [List.size_toArray, ← hl]
   exact Option.some.inj h1
  exact PySem.W.ki_setBack ho (by omega) (by rw [List.size_toArray, ← hl]; exact h3) (by omega) (by rw [hk]; exact ⟨_, I', q⟩)
theorem slice_bounds (lo hi : Option Int) (n : Nat) : (sliceBounds lo hi none n).1 = ((HT.sIx n 0 lo : Nat) : Int) /\ (sliceBounds lo hi none n).2.1 = ((HT.sIx n n hi : Nat) : Int) /\ (sliceBounds lo hi none n).2.2 = 1 := by
 refine ⟨?_, ?_, rfl⟩
 ·cases lo with
  | none => simp [sliceBounds, HT.sIx]
  | some i =>
   simp only [sliceBounds, HT.sIx, Option.getD_none, show (1 : Int) > 0 by decide, if_true]
   by_cases h : i < 0
   ·simp only [h, if_true] <;> omega
   ·simp only [h, if_false] <;> omega
 ·cases hi with
  | none => simp [sliceBounds, HT.sIx]
  | some i =>
   simp only [sliceBounds, HT.sIx, Option.getD_none, show (1 : Int) > 0 by decide, if_true]
   by_cases h : i < 0
   ·simp only [h, if_true] <;> omega
   ·simp only [h, if_false] <;> omega
theorem slicePick_cut (its : List Value) (lo hi : Option Int) : slicePick its.toArray lo hi none = ((its.drop (HT.sIx its.length 0 lo)).take (HT.sIx its.length its.length hi - HT.sIx its.length 0 lo)).toArray := by
 obtain ⟨h1, h2, h3⟩ := slice_bounds lo hi its.toArray.size
 unfold slicePick
 rw [h1, h2, h3]
 simp only [sliceRange_one, pick_run, List.size_toArray] <;> rfl
noncomputable def rSlL (K : PySem.W.Frag) : V -> Option Int -> Option Int -> Hp -> VK -> Prop := fun x lo hi H Q => ∃ a xs, x = .ref a /\ SqL K H a xs /\ ∀ p, H p = none -> Q (.ref p) (upd H p (.lst (cutV xs lo hi)))
theorem sl_list : SlR X (rSlL X.K) := by
 (first | refine ⟨?_⟩ | skip); intro pins s σ H x v vl vu lo hi sl Q I rx hs pl pu h
 obtain ⟨a, xs, rfl, hx, q⟩ := h
 cases rx
 obtain ⟨its, r, ht, hz⟩ := I.list hx
 have hlen := r.length
 refine ⟨"list", _, slot_list_getitem.lookup, ht.isList.typeIs, ?_⟩
 refine wpAny_getItem_list_slice ht.isList hs pl pu .none (by simp) ?_ (by rw [List.size_toArray] <;> omega)
 rw [slicePick_cut, ← hlen]
 refine ⟨.ref s.heap.objs.size, _, I.laid (t' := s.toks) (o := .lst (cutV xs lo hi)) (fun b ob q => Heap.get?_push_of_some _ q) (Nat.le_refl _) ?_, rfl, q _ (I.hok.fresh (Nat.le_refl _))⟩
 exact ⟨Nat.le_trans (cutV_length xs lo hi) hz, _, 0, (r.drop (HT.sIx xs.length 0 lo)).take (HT.sIx xs.length xs.length hi - HT.sIx xs.length 0 lo), Heap.get?_push_size _ rfl⟩
theorem call_len_seq : CallR X (.builtin "len") (fun xs H Q => ∃ p ys, xs = [.ref p] /\ (SqL X.K H p ys \/ SqT X.K H p ys) /\ Q (.int ys.length) H) := by
 (first | refine ⟨?_⟩ | skip); intro pins s σ H xs us Q I r h
 obtain ⟨p, ys, rfl, hq, q⟩ := h
 obtain ⟨u, rfl, rx⟩ := vals1 r
 cases rx
 have hn := line63
 rcases hq with hq | hq
 ·obtain ⟨its, r', pl, hz⟩ := I.list hq
  have hlen := r'.length
  exact Calls.call_len_list pl.isList (by simp only [List.size_toArray] <;> omega) ⟨.int ys.length, H, I.tok _, ⟨s.toks + 1, by rw [List.size_toArray, hlen]⟩, q⟩
 ·obtain ⟨its, r', pl, hz⟩ := I.tuple hq
  have hlen := r'.length
  exact len_tuple pl (by simp only [List.size_toArray] <;> omega) ⟨.int ys.length, H, I.tok _, ⟨s.toks + 1, by rw [List.size_toArray, hlen]⟩, q⟩
theorem call_len_str : CallR X (.builtin "len") (fun xs H Q => ∃ z, xs = [.str z] /\ z.length <= sizeLine /\ Q (.int z.length) H) := by
 (first | refine ⟨?_⟩ | skip); intro pins s σ H xs us Q I r h
 obtain ⟨z, rfl, hz, q⟩ := h
 obtain ⟨u, rfl, t, rfl⟩ := vals1 r
 have hn := line63
 exact len_str (by omega) ⟨.int z.length, H, I.tok _, ⟨_, rfl⟩, q⟩
theorem call_list_of : CallR X (.type "list") (fun xs H Q => ∃ p ys, xs = [.ref p] /\ (SqL X.K H p ys \/ SqT X.K H p ys) /\ ∀ l, H l = none -> Q (.ref l) (upd H l (.lst ys))) := by
 (first | refine ⟨?_⟩ | skip); intro pins s σ H xs us Q I r h
 obtain ⟨p, ys, rfl, hq, q⟩ := h
 obtain ⟨u, rfl, rx⟩ := vals1 r
 cases rx
 have fin : ∀ (its : List Value), Vals ys its -> ys.length <= sizeLine -> ∀ (h' : Heap) (c' : Nat), (∀ b o', s.heap.get? b = some o' -> h'.get? b = some o') ->
   h'.get? s.heap.objs.size = some { cls := .type "list", dict := none, data := .seq its.toArray c', slots := #[] } -> EP X pins σ Q (.ref s.heap.objs.size) { s with heap := h' } := fun its r' hz h' c' kp e =>
  ⟨.ref s.heap.objs.size, _, I.laid (t' := s.toks) kp (Nat.le_refl _) (show ObjOk X.prog X.w _ h' _ (.lst ys) from ⟨hz, its, c', r', e⟩), rfl, q _ (I.hok.fresh (Nat.le_refl _))⟩
 rcases hq with hq | hq
 ·obtain ⟨its, r', pl, hz⟩ := I.list hq
  have hlen := r'.length
  obtain ⟨o, ho, hc, n, hd⟩ := pl.isList
  exact call_list_seq p (.inl rfl) ho hc hd (fun h' c' kp e => fin its r' hz h' c' kp e) (by simp only [List.size_toArray] <;> omega)
 ·obtain ⟨its, r', pl, hz⟩ := I.tuple hq
  have hlen := r'.length
  obtain ⟨o, ho, hc, n, hd⟩ := pl
  exact call_list_seq p (.inr rfl) ho hc hd (fun h' c' kp e => fin its r' hz h' c' kp e) (by simp only [List.size_toArray] <;> omega)
theorem call_tuple_of : CallR X (.type "tuple") (fun xs H Q => ∃ p ys, xs = [.ref p] /\ ((SqL X.K H p ys /\ ∀ l, H l = none -> Q (.ref l) (upd H l (.tup ys))) \/ (SqT X.K H p ys /\ Q (.ref p) H))) := by
 (first | refine ⟨?_⟩ | skip); intro pins s σ H xs us Q I r h
 obtain ⟨p, ys, rfl, h⟩ := h
 obtain ⟨u, rfl, rx⟩ := vals1 r
 cases rx
 rcases h with ⟨hq, q⟩ | ⟨hq, q⟩
 ·obtain ⟨its, r', pl, hz⟩ := I.list hq
  have hlen := r'.length
  refine call_tuple_list pl.isList (fun h' kp => ?_) (by simp only [List.size_toArray] <;> omega)
  have I1 : Inv X pins σ H { s with heap := h' } := I.kept (t' := s.toks) kp
  have I2 : Inv X pins σ (upd H h'.objs.size (.tup ys)) { s with heap := h'.push { cls := .type "tuple", data := .seq its.toArray } } :=
   I1.laid (t' := s.toks) (fun b o e => Heap.get?_push_of_some _ e) (Nat.le_refl _) (show ObjOk X.prog X.w _ _ _ (.tup ys) from ⟨hz, its, r', TupX.new _ _⟩)
  exact ⟨.ref h'.objs.size, _, I2, rfl, q _ (I1.hok.fresh (Nat.le_refl _))⟩
 ·obtain ⟨its, r', pl, hz⟩ := I.tuple hq
  exact call_tuple_same pl ⟨.ref p, H, I, rfl, q⟩
variable {o e : Expr} {es : List Expr} {to : TE} {t : TA} {name : Str} {apos cpos : Pos} {T id : String} {r : V -> List V -> Hp -> VK -> Prop}
end
end L2
namespace L2
open PySem PySem.Spec PyProof.Rows
noncomputable def MtM (X : Cx) (id : String) (r : V -> List V -> Hp -> VK -> Prop) : Prop :=
 ∀ (pins : List (Addr × Obj)) (s : Shared) (σ : St) (H : Hp) (x : V) (xs : List V) (v : Value) (us : List Value) (Q : VK), Inv X pins σ H s -> RelV x v -> Vals xs us -> r x xs H Q ->
  wpAny (model X.prog X.w) X.A (call (.builtin id) (v :: us)) (EP X pins σ Q) X.xe s
theorem Vals.one : ∀ {x : V} {us : List Value}, Vals [x] us -> ∃ u, us = [u] /\ RelV x u
 | _, _, .cons r .nil => ⟨_, rfl, r⟩
section
variable {X : Cx} {pins : List (Addr × Obj)} {σ : St} {H : Hp} {s : Shared} {l b : Addr} {xs ys zs : List V}
theorem Inv.lset {its its' : List Value} {n : Nat} {f : Array Value -> Array Value} {t' : Nat} (I : Inv X pins σ H s) (hH : H l = some (.lst xs))
  (e : s.heap.get? l = some { cls := .type "list", data := .seq its.toArray n }) (hf : f its.toArray = its'.toArray) (hv : Vals ys its') (hz : ys.length <= sizeLine) :
  Inv X pins σ (upd H l (.lst ys)) { s with heap := s.heap.update l (Obj.mapSeq f), toks := t' } := by
 have q := PySem.IsL.update e f
 rw [hf] at q
 refine I.write (x := l) (e := l) (by rw [hH]; exact trivial) (.inl rfl) (fun b' u hb hu => (Heap.get?_update_other s.heap (Obj.mapSeq f) (Ne.symm hb)).trans hu) ⟨_, q⟩ ?_
 exact ⟨hz, its', _, hv, q⟩
theorem Inv.lnew {its : List Value} {t' : Nat} (I : Inv X pins σ H s) (hv : Vals ys its) (hz : ys.length <= sizeLine) :
  Inv X pins σ (upd H s.heap.objs.size (.lst ys)) { s with heap := s.heap.push { cls := .type "list", data := .seq its.toArray }, toks := t' } :=
 I.laid (fun _ _ q => Heap.get?_push_of_some _ q) (Nat.le_refl _) ⟨hz, its, 0, hv, Heap.get?_push_size _ rfl⟩
theorem Inv.fresh (I : Inv X pins σ H s) : H s.heap.objs.size = none := I.hok.fresh (Nat.le_refl _)
theorem Inv.lstM (I : Inv X pins σ H s) (hH : H l = some (.lst xs)) : xs.length <= sizeLine /\ ∃ (its : List Value) (n : Nat), Vals xs its /\ xs.length = its.length /\ s.heap.get? l = some { cls := .type "list", data := .seq its.toArray n } := by
 obtain ⟨z, its, n, r, e⟩ := I.hok l _ hH
 exact ⟨z, its, n, r, r.length, e⟩
end
section
variable {X : Cx}
noncomputable def rAppend : V -> List V -> Hp -> VK -> Prop := fun x vs H Q => ∃ l xs y, x = .ref l /\ vs = [y] /\ H l = some (.lst xs) /\ xs.length < sizeLine /\ Q .non (upd H l (.lst (xs ++ [y])))
theorem mt_append : MtM X "list.append" rAppend := by
 (first | refine ⟨?_⟩ | skip); intro pins s σ H x vs v us Q I rx rv h
 obtain ⟨l, xs, y, rfl, rfl, hH, hz, q⟩ := h
 cases rx
 obtain ⟨u, rfl, ru⟩ := rv.one
 obtain ⟨z, its, n, r, hl, e⟩ := I.lstM hH
 refine call_meets F.slot_list_append ⟨_, e, rfl⟩ F.entry_list_append (F.args_list_append_2 _ _) (PySem.list_append l its.toArray n u (by rw [List.size_toArray]; omega)) ⟨e, ?_⟩
 refine ⟨.non, _, I.lset (its' := its ++ [u]) hH e (by simp) (r.append (.cons ru .nil)) ?_, rfl, q⟩
 rw [List.length_append, List.length_singleton]
 omega
noncomputable def rCat : R2 := fun x y H Q => ∃ l b xs zs, x = .ref l /\ y = .ref b /\ H l = some (.lst xs) /\ H b = some (.lst zs) /\ xs.length + zs.length <= sizeLine /\ ∀ p, H p = none -> Q (.ref p) (upd H p (.lst (xs ++ zs)))
theorem op_cat : OpR X (binaryOp .Add) rCat := by
 (first | refine ⟨?_⟩ | skip); intro pins s σ H x y v u Q I rx ry h
 obtain ⟨l, b, xs, zs, rfl, rfl, hH, hB, hz, q⟩ := h
 cases rx
 cases ry
 obtain ⟨z, its, n, r, hl, e⟩ := I.lstM hH
 obtain ⟨z2, its2, n2, r2, hl2, e2⟩ := I.lstM hB
 refine PySem.P.add_list e e2 ?_ (by rw [List.size_toArray, List.size_toArray]; omega)
 have ea : its.toArray ++ its2.toArray = (its ++ its2).toArray := by simp
 rw [ea]
 exact ⟨.ref _, _, I.lnew (t' := s.toks) (r.append r2) (by rw [List.length_append]; omega), rfl, q _ I.fresh⟩
end
end L2
namespace L2
open PySem PySem.Spec PyProof.Rows
section
variable {κ : Type} [DecidableEq κ]
noncomputable def valV (kvs : List (κ × V)) (k : κ) : Option V := (kvs.find? fun kv => decide (kv.1 = k)).map (·.2)
noncomputable def putK (kvs : List (κ × V)) (k : κ) (v : V) : List (κ × V) :=
 if (kvs.any fun kv => decide (kv.1 = k)) = true then kvs.map (fun kv => if kv.1 = k then (kv.1, v) else kv) else kvs ++ [(k, v)]
theorem valV_pos {p : κ × V} {r : List (κ × V)} {k : κ} (e : p.1 = k) : valV (p :: r) k = some p.2 := by simp [valV, List.find?_cons, e]
theorem valV_neg {p : κ × V} {r : List (κ × V)} {k : κ} (e : ¬ p.1 = k) : valV (p :: r) k = valV r k := by simp [valV, List.find?_cons, e]
theorem valV_any (k : κ) : ∀ kvs : List (κ × V), (kvs.any fun kv => decide (kv.1 = k)) = (valV kvs k).isSome
 | [] => rfl
 | p :: r => by
  rw [List.any_cons]
  by_cases e : p.1 = k
  ·simp only [valV_pos e, decide_eq_true e, Bool.true_or, Option.isSome_some]
  ·rw [valV_neg e, decide_eq_false e, Bool.false_or]; exact valV_any k r
theorem length_putK (kvs : List (κ × V)) (k : κ) (v : V) : (putK kvs k v).length <= kvs.length + 1 := by
 unfold putK
 split
 ·rw [List.length_map]; omega
 ·rw [List.length_append, List.length_cons, List.length_nil]; omega
theorem RelO.isSome_eq {o : Option V} {u : Option Value} (r : RelO o u) : o.isSome = u.isSome := by
 cases o with
 | none => cases u with
  | none => rfl
  | some _ => exact (show False from r).elim
 | some _ => cases u with
  | none => exact (show False from r).elim
  | some _ => rfl
theorem KV.any {kvs : List (κ × V)} {vs : List (κ × Value)} (r : KV kvs vs) (k : κ) : (kvs.any fun kv => decide (kv.1 = k)) = vs.any fun kv => decide (kv.1 = k) := by
 unfold KV at r
 induction r with
 | nil => rfl
 | cons h t ih => rw [List.any_cons, List.any_cons, ih, h.1]
theorem KV.repl {kvs : List (κ × V)} {vs : List (κ × Value)} (r : KV kvs vs) (k : κ) {y : V} {u : Value} (ry : RelV y u) :
  KV (kvs.map fun kv => if kv.1 = k then (kv.1, y) else kv) (vs.map fun kv => if kv.1 = k then (kv.1, u) else kv) := by
 unfold KV at r ⊢
 induction r with
 | nil => exact .nil
 | @cons p q ps qs h t ih =>
  rw [List.map_cons, List.map_cons]
  refine .cons ?_ ih
  obtain ⟨h1, h2⟩ := h
  by_cases e : p.1 = k
  ·rw [if_pos e, if_pos (h1.symm.trans e)]; exact ⟨h1, ry⟩
  ·rw [if_neg e, if_neg (fun z => e (h1.trans z))]; exact ⟨h1, h2⟩
theorem KV.put {kvs : List (κ × V)} {vs : List (κ × Value)} (r : KV kvs vs) (k : κ) {y : V} {u : Value} (ry : RelV y u) : KV (putK kvs k y) (stored vs k u) := by
 unfold putK stored
 rw [r.any k]
 by_cases e : (vs.any fun kv => decide (kv.1 = k)) = true
 ·rw [if_pos e, if_pos e]; exact r.repl k ry
 ·rw [if_neg e, if_neg e]; exact Paired.snoc r ⟨rfl, ry⟩
theorem KV.length {kvs : List (κ × V)} {vs : List (κ × Value)} (r : KV kvs vs) : kvs.length = vs.length := Paired.length r
end
theorem kV_is {P : Program} {w : World} {k : Key} {u : Value} (r : RelV (kV k) u) : (mixKind P w).is k u = true := by
 cases k with
 | inl i => obtain ⟨t, e⟩ := (show ∃ t, u = Value.int i t from r); subst e; exact mixKind_int P w i t
 | inr x => obtain ⟨t, e⟩ := (show ∃ t, u = Value.str x t from r); subst e; exact mixKind_str P w x t
section
variable {P : Program} {w : World} {H : Hp} {h : Heap} {a : Addr}
theorem rd_of {u : HO} (ok : HOk P w H h) (e : Rd H a u) : ObjOk P w H h a u := e.ok ok
theorem dk_rd {kvs : List (Key × V)} (ok : HOk P w H h) (e : Rd H a (.dK kvs)) : kvs.length <= sizeLine /\ (a == sysModules) = false /\ ∃ vs, KV kvs vs /\ h.DictOf (mixKind P w) a vs :=
 show ObjOk P w H h a (.dK kvs) from rd_of ok e
theorem dk_of {kvs : List (Key × V)} (ok : HOk P w H h) (e : H a = some (.dK kvs)) : kvs.length <= sizeLine /\ (a == sysModules) = false /\ ∃ vs, KV kvs vs /\ h.DictOf (mixKind P w) a vs := dk_rd ok (.inl e)
end
section
variable {X : Cx} {pins : List (Addr × Obj)} {σ : St} {H : Hp} {s : Shared} {a : Addr} {y v : V} {u r : Value} {o : Option V} {A : Around} {E : Value -> Shared -> Prop}
theorem Inv.big (I : Inv X pins σ H s) : sysModules < s.heap.objs.size := by
 have h : mainGlobals < s.heap.objs.size := (I.mod.glob.keeps I.bk).lt
 exact Nat.lt_trans (by decide) h
theorem d_write {h' : Heap} {t' : Nat} {ob : HO} (I : Inv X pins σ H s) (mu : Mut (H a)) (hs : Heap.SameBut a s.heap h') (he : ∃ q, h'.get? a = some q) (new : ObjOk X.prog X.w (upd H a ob) h' a ob) :
  Inv X pins σ (upd H a ob) { s with heap := h', toks := t' } :=
 I.write (x := a) (e := a) mu (.inl rfl) (fun b q hb z => (hs.2 b hb).trans z) he new
theorem dk_new {P : Program} {w : World} {H' : Hp} {h' : Heap} {kvs : List (Key × V)} {vs : List (Key × Value)} (z : kvs.length <= sizeLine) (hd : (a == sysModules) = false) (rel : KV kvs vs) (dd : h'.DictOf (mixKind P w) a vs) :
  ObjOk P w H' h' a (.dK kvs) := ⟨z, hd, vs, rel, dd⟩
end
theorem dk_empty {P : Program} {w : World} {H : Hp} (h : Heap) (hb : sysModules < h.objs.size) : ObjOk P w H (h.push { cls := .type "dict", data := .dict #[] }) h.objs.size (.dK []) :=
 ⟨Nat.zero_le _, beq_eq_false_iff_ne.mpr (Ne.symm (Nat.ne_of_lt hb)), [], .nil, Heap.DictOf.new h⟩
noncomputable def tDNewK : TE := fun _ H Q => ∀ p, H p = none -> Q (.ref p) (upd H p (.dK []))
section
variable {X : Cx} {pos : Pos}
theorem pe_dnewK : PE X (.Dict [] [] pos) tDNewK := .mk <| fun pins s σ H Q I h =>
 wpAny_Dict_empty ⟨.ref s.heap.objs.size, _, I.laid (a := s.heap.objs.size) (o := .dK []) (t' := s.toks) (fun _ _ q => Heap.get?_push_of_some _ q) (Nat.le_refl _) (dk_empty s.heap I.big), rfl, h _ (I.hok.fresh (Nat.le_refl _))⟩
end
noncomputable def tPairs : List (TE × TE) -> St -> Hp -> (List (V × V) -> Hp -> Prop) -> Prop
 | [], _, H, Q => Q [] H
 | (tk, tv) :: r, σ, H, Q => tk σ H fun x H1 => tv σ H1 fun y H2 => tPairs r σ H2 fun ps H3 => Q ((x, y) :: ps) H3
abbrev VV : List (V × V) -> List (Value × Value) -> Prop := Paired fun p q => RelV p.1 q.1 /\ RelV p.2 q.2
noncomputable def PPs (X : Cx) (pos : Pos) (keys : List (Option Expr)) (values : List Expr) (trs : List (TE × TE)) : Prop :=
 ∀ (pins : List (Addr × Obj)) (s : Shared) (σ : St) (H : Hp) (Q : List (V × V) -> Hp -> Prop), Inv X pins σ H s -> tPairs trs σ H Q ->
  wpAny (model X.prog X.w) X.A (evalPairs (pairTrees keys values X.env pos)) (fun vs s' => ∃ ps H', Inv X pins σ H' s' /\ VV ps vs /\ Q ps H') X.xe s
theorem pps_nil {X : Cx} {pos : Pos} : PPs X pos [] [] [] := fun pins s σ H Q I h => pairTrees_nil_walk ⟨[], H, I, .nil, h⟩
theorem pps_cons {X : Cx} {pos : Pos} {k v : Expr} {ks : List (Option Expr)} {vs : List Expr} {tk tv : TE} {trs : List (TE × TE)} (hk : PE X k tk) (hv : PE X v tv) (hr : PPs X pos ks vs trs) :
  PPs X pos (some k :: ks) (v :: vs) ((tk, tv) :: trs) := fun pins s σ H Q I h =>
 pairTrees_cons_walk (thn (hk pins s σ H _ I h) fun u s1 ⟨x, H1, I1, rx, q1⟩ => thn (hv pins s1 σ H1 _ I1 q1) fun w2 s2 ⟨y, H2, I2, ry, q2⟩ =>
  thn (hr pins s2 σ H2 _ I2 q2) fun ws s3 ⟨ps, H3, I3, rel, q3⟩ => ⟨(x, y) :: ps, H3, I3, .cons ⟨rx, ry⟩ rel, q3⟩)
end L2
namespace Att
open PySem PySem.W PySem.Calls PyProof.Rows
theorem ints_of_wellAll {P : Params} {h : Heap} : ∀ (ns : List Int) (vs : List Value), WellAll P h vs (ns.map WData.int) -> IntsAre vs ns := by
 intro ns
 induction ns with
 | nil =>
  intro vs w
  rw [List.map_nil] at w
  cases w
  exact .nil
 | cons n ns ih =>
  intro vs w
  rw [List.map_cons] at w
  cases w with
  | cons a b =>
   cases a
   exact .cons _ _ (ih _ b)
theorem script_of {l : OpenLaw} {n : Nat} (hn : l.most = some n) {P : Params} {h : Heap} {args : List WData} {vals : List Value}
  (hpre : l.row.toRowW.claim.pre args = true) (hwl : WellAll P h vals args) :
  ∃ a vs ns, vals = [Value.ref a] /\ args = [WData.list (ns.map WData.int)] /\ h.get? a = some { cls := .type "list", data := .seq vs.toArray } /\ IntsAre vs ns /\ ns.length <= n := by
 have hsh : WShape.hasAll [] args [.list .int] = true := (pre_splitW hpre).1
 have hc : l.pre.holds [] { args := args } = true := (pre_splitW hpre).2
 obtain ⟨d, r, rfl, h1, h2⟩ := hasAllW_cons hsh
 obtain rfl := hasAllW_nil h2
 obtain ⟨xs, rfl, h3⟩ := hasW_list h1
 obtain ⟨ns, rfl⟩ := items_int h3
 have hlen : ns.length <= n := by
  unfold OpenLaw.pre at hc
  have h4 : (WTm.not (.lt (.lit (.int (n : Int))) (.len (.arg 0)))).holds [] { args := [.list (ns.map .int)] } = true := by
   have h4 := (holds_andW hc).1
   rw [hn] at h4
   exact h4
  have h5 := condW_of h4 (w_not (w_lt w_lit (w_len_list (w_arg rfl))))
  rw [List.length_map] at h5
  refine Nat.le_of_not_lt fun q => ?_
  have q' : (n : Int) < ((ns.length : Nat) : Int) := by omega
  first
   | (rw [decide_eq_true q'] at h5; exact absurd h5 (by decide))
   | (simp at h5; omega)
 cases hwl with
 | cons w1 w2 =>
  cases w2
  cases w1 with
  | list ho hall => exact ⟨_, _, ns, rfl, rfl, ho, ints_of_wellAll ns _ hall, hlen⟩
theorem post_true (l : OpenLaw) (args : List WData) : l.row.toRowW.claim.post args (.bool true) args = true :=
 postW_of (r := l.row.toRowW) (X := (true == true))
  (show WShape.has [] (.bool true) .bool = true by first | rfl | decide | simp [WShape.has, WShape.arms, WShape.armsAll])
  (show (WTm.eq .res (.lit (.bool true))).value [] { args := args, res := some (.bool true), after := args } = some (.bool (true == true)) from w_eq_bool (w_res rfl) w_lit) rfl
theorem attach_call {l : OpenLaw} {n : Nat} {q : Program} {loose : List Str} {XP : (Str -> Option Value) -> Heap -> Prop} {YP : World -> Heap -> Prop} {d : DefRec}
  (hn : l.most = some n) (hdf : d.params.defaults = [])
  (call : ∀ (w : World) (s₀ s₁ : Shared) (mg mb : Str -> Option Value) (fa : Addr) (o : Obj) (pm cd doc : Value) (a : Addr) (vs : List Value) (ns : List Int),
   Ground q loose [] XP w s₀ mg mb s₁.heap -> YP w s₁.heap ->
   s₁.heap.get? fa = some o -> o.data = .func (docDef d.name d.params d.body d.scope pm cd doc) -> s₁.heap.CodeRec cd d.name -> mg d.name = some (.ref fa) ->
   s₁.heap.get? a = some { cls := .type "list", data := .seq vs.toArray } -> IntsAre vs ns -> ns.length <= n -> s₁.gens = #[] ->
   codeAny (model l.prog w) callerA (.call (.ref fa) ⟨[.ref a], []⟩) (fun r s' => r = .ok (.ret (.bool true)) /\ OldK s₁.heap s'.heap /\ s'.os = s₁.os /\ AllBare s'.gens) s₁) :
  WalkO q loose XP YP l.row.toRowW d [] (fun f vs => PySem.call f vs) := by
 intro w s₀ s₁ mg mb G Y fa o pm cd doc dV kV ho hd hcd hD hmg hg args vals as hpre hlay hrd hwl hlo
 obtain rfl : dV = .none := Dflts.none hD hdf
 obtain rfl : kV = .none := Dflts.noKw hD
 obtain ⟨a, vs, ns, rfl, rfl, hobj, hints, hlen⟩ := script_of hn hpre hwl
 refine enter_call (codeAny_mono (call w s₀ s₁ mg mb fa o pm cd doc a vs ns G Y ho (fd_plain hd) hcd hmg hobj hints hlen hg) fun r s' hq => ?_)
 obtain ⟨rfl, h2, h3, h4⟩ := hq
 exact ⟨.inl ⟨.bool true, .bool true, [], rfl, fun _ => rfl, .bool true, post_true l _, fun _ => ⟨List.Pairwise.nil, fun _ hm => (nomatch hm)⟩⟩, h2, h3, h4⟩
end Att
namespace L2
open PySem PySem.Spec PyProof.Rows
theorem vals_ints : ∀ {vs : List Value} {ns : List Int}, IntsAre vs ns -> Vals (ns.map V.int) vs
 | _, _, .nil => .nil
 | _, _, .cons n t h => .cons ⟨t, rfl⟩ (vals_ints h)
noncomputable def Only (H : Hp) : Prop := ∀ b, H b = none \/ ∃ o xs, H b = some (.frz o (.lst xs))
theorem law_call {P : Program} {w : World} {K : PySem.W.Frag} {mg mb : Str -> Option Value} {CX : CXT} {k : Nat} {fa a : Addr} {fd : FuncData} {x : Str} {sp : Sp} {s₁ : Shared} {vs : List Value} {ns : List Int}
  (KX : K.In s₁.heap) (hns : s₁.heap.Ns mainGlobals mg) (hb : s₁.heap.Ns builtinsNs mb) (hbb : ∀ x : Str, x ≠ "__name__" -> mb x = bootBuiltins x) (hlim : s₁.heap.NoLimit) (hg : s₁.gens = #[])
  (ha : s₁.heap.get? a = some { cls := .type "list", data := .seq vs.toArray }) (hi : IntsAre vs ns) (hl : ns.length <= sizeLine) (hr : Room k callerA)
  (F : ∀ base : Heap, K.In base -> base.Ns mainGlobals mg -> FnOk P w K mg base CX k fa fd [x] sp) (hbind : ∀ (s : Shared) (u : Value), BindsTo s fd ⟨[u], []⟩ [(x, u)])
  (hsp : ∀ H : Hp, Only H -> SqL K H a (ns.map V.int) -> sp [.ref a] H (fun v _ => v = .bl true) fun _ _ _ => False)
  (hCX : ∀ H e s', CX [] H s₁ (fun _ _ _ => False) e s' -> False) :
  codeAny (model P w) callerA (.call (.ref fa) ⟨[.ref a], []⟩) (fun r s' => r = .ok (.ret (.bool true)) /\ OldK s₁.heap s'.heap /\ s'.os = s₁.os /\ AllBare s'.gens) s₁ := by
 have rv := vals_ints hi
 have lenV := hi.length
 -- from an abstract heap in which nothing but the script may be tracked
 have core : ∀ H : Hp, Only H -> SqL K H a (ns.map V.int) -> HOk P w H s₁.heap -> (∀ b, H b ≠ none -> b = a) -> (H a ≠ none -> K.lookup a = none) ->
   codeAny (model P w) callerA (.call (.ref fa) ⟨[.ref a], []⟩) (fun r s' => r = .ok (.ret (.bool true)) /\ OldK s₁.heap s'.heap /\ s'.os = s₁.os /\ AllBare s'.gens) s₁ := by
  intro H hO hS hok hA hK
  have base_of : ∀ {b : Addr} {o : Obj}, s₁.heap.get? b = some o -> H b = none -> (hidT s₁.heap H).get? b = some o := fun e n => hidT_get e n
  have noA : ∀ {b : Addr} {o : Obj} {es : Array DictEntry} {ep : Nat}, s₁.heap.get? b = some o -> o.data = .dict es ep -> H b = none := fun {b o es ep} e d => by
   cases q : H b with
   | none => rfl
   | some u =>
    have e' : b = a := hA b (by rw [q]; simp)
    subst e'
    rw [ha] at e; cases e
    have d' : Data.seq vs.toArray _ = Data.dict es ep := d
    cases d'
  have nsK : ∀ {b : Addr} {m : Str -> Option Value}, s₁.heap.Ns b m -> (hidT s₁.heap H).Ns b m := fun {b m} ⟨o, es, ep, e, d, r⟩ => ⟨o, es, ep, base_of e (noA e d), d, r⟩
  have hKb : K.In (hidT s₁.heap H) := fun b o e => base_of (KX b o e) (by
   cases q : H b with
   | none => rfl
   | some u =>
    have e' : b = a := hA b (by rw [q]; simp)
    subst e'
    rw [hK (by rw [q]; simp)] at e; cases e)
  have hM : Mod K mg (hidT s₁.heap H) := ⟨hKb, nsK hns, ⟨mb, nsK hb, hbb⟩, let ⟨mc, h1, h2⟩ := hlim; ⟨mc, nsK h1, h2⟩⟩
  have e0 : Env0 P w K mg (hidT s₁.heap H) callerA [] s₁ H := ⟨rfl, hM, fun b o e => of_hidT e, Nat.le_of_eq (hidT_size _ _), trivial, fun b hb => absurd (show b ∈ ([] : List Addr) from hb) (by simp), hok, .of_eq hg⟩
  refine codeAny_mono ((F _ hKb (nsK hns)).run callerA [] s₁ H ⟨[.ref a], []⟩ [.ref a] [.ref a] _ _ hr e0 (hbind s₁ (.ref a)) (.cons rfl .nil) (hsp H hO hS)) fun r s' h => ?_
  cases r with
  | error e => exact (hCX H e s' h).elim
  | ok fl =>
   cases fl with
   | next => exact False.elim h
   | brk => exact False.elim h
   | cont => exact False.elim h
   | ret u =>
    obtain ⟨v, H', os, bare, un, hok', r', q⟩ := h
    have q' : v = .bl true := q
    subst q'
    obtain rfl : u = Value.bool true := r'
    refine ⟨rfl, OldK.of_keep fun b o e => ?_, os, bare⟩
    cases q : H b with
    | none => exact un.keep b o e q (by intro z; exact absurd (show b ∈ ([] : List Addr) from z) (by simp)) (by simp)
    | some u =>
     rcases hO b with z | ⟨ob, xs, z⟩
     ·rw [q] at z; cases z
     ·have z2 := un.frzs b ob _ z
      obtain ⟨e1, _⟩ := hok b _ z
      obtain ⟨e2, _⟩ := hok' b _ z2
      rw [e] at e1; cases e1
      exact e2
 cases hk : K.lookup a with
 | some o =>
  -- the script is one of the module's own objects
  have e := KX a o hk
  rw [ha] at e
  cases e
  refine core (fun _ => none) (fun _ => .inl rfl) (.inr ⟨_, vs.toArray, _, hk, rfl, rfl, rfl, by rw [List.size_toArray, lenV]; exact hl, by simpa using rv⟩) (fun b u z => by have z' : (none : Option HO) = some u := z; cases z') (fun b z => absurd rfl z) fun z => absurd rfl z
 | none =>
  refine core (fun b => if b = a then some (.frz { cls := .type "list", data := .seq vs.toArray } (.lst (ns.map V.int))) else none) (fun b => ?_) (.inl (.inr ⟨{ cls := .type "list", data := .seq vs.toArray }, if_pos rfl⟩)) (fun b u z => ?_) (fun b z => ?_) fun _ => hk
  ·by_cases hb : b = a
   ·exact .inr ⟨_, _, if_pos hb⟩
   ·exact .inl (if_neg hb)
  ·by_cases hb : b = a
   ·have z' := (if_pos hb).symm.trans z
    cases z'
    subst hb
    exact ⟨ha, by rw [List.length_map]; exact hl, vs, _, rv, ha⟩
   ·have z' := (if_neg hb).symm.trans z
    cases z'
  ·by_cases hb : b = a
   ·exact hb
   ·exact absurd (if_neg hb) z
end L2
namespace L2
open PySem PySem.Spec PyProof.Rows
theorem walk_of {l : PySem.W.OpenLaw} {n k : Nat} {q : Program} {loose : List Str} {XP : (Str -> Option Value) -> Heap -> Prop} {YP : World -> Heap -> Prop} {d : DefRec} {K : Params -> PySem.W.Frag} {CX : World -> CXT} {sp : World -> Sp} {x : Str}
  (hn : l.most = some n) (hn2 : n <= sizeLine) (hdf : d.params.defaults = []) (hr : Room k callerA)
  (hY : ∀ (w : World) (h : Heap), YP w h -> (K w.params).In h)
  (F : ∀ (w : World) (mg : Str -> Option Value) (fa : Addr) (h : Heap), (K w.params).In h -> h.Ns mainGlobals mg -> mg d.name = some (.ref fa) ->
   ∃ fd : FuncData, (∀ (s : Shared) (u : Value), BindsTo s fd ⟨[u], []⟩ [(x, u)]) /\
    ∀ base : Heap, (K w.params).In base -> base.Ns mainGlobals mg -> FnOk l.prog w (K w.params) mg base (CX w) k fa fd [x] (sp w))
  (hsp : ∀ (w : World) (H : Hp) (a : Addr) (ns : List Int), ns.length <= n -> Only H -> SqL (K w.params) H a (ns.map V.int) -> sp w [.ref a] H (fun v _ => v = .bl true) fun _ _ _ => False)
  (hCX : ∀ (w : World) (H : Hp) (s : Shared) (e : Value) (s' : Shared), CX w [] H s (fun _ _ _ => False) e s' -> False) :
  PySem.W.WalkO q loose XP YP l.row.toRowW d [] (fun f vs => PySem.call f vs) := by
 refine Att.attach_call hn hdf fun w s₀ s₁ mg mb fa o pm cd doc a vs ns G Y ho hd hcd hmg hobj hints hlen hg => ?_
 have KX := hY w _ Y
 obtain ⟨fd, hb, hF⟩ := F w mg fa _ KX G.T.g hmg
 exact law_call KX G.T.g G.T.b G.T.builtins G.T.nolimit hg hobj hints (Nat.le_trans hlen hn2) hr hF hb (fun H hO hS => hsp w H a ns hlen hO hS) fun H e s' => hCX w H s₁ e s'
end L2
namespace L2
open PySem PySem.Spec PyProof.Rows
noncomputable def defArgs (s : Stmt) : Arguments := match s with
 | .FunctionDef _ a _ _ _ _ _ _ _ _ => a
 | _ => { posonlyargs := [], args := [], vararg := none, kwonlyargs := [], kw_defaults := [], kwarg := none, defaults := [] }
noncomputable def defBody (s : Stmt) : List Stmt := match s with
 | .FunctionDef _ _ b _ _ _ _ _ _ _ => b
 | _ => []
noncomputable def defScope (s : Stmt) : Scope := match s with
 | .FunctionDef _ _ _ _ _ _ sc _ _ _ => sc
 | _ => { kind := .function, names := [], isGenerator := false, isCoroutine := false }
abbrev CX0 : CXT := fun _ _ _ _ _ _ => False
abbrev E0 : XK := fun _ _ _ => False
theorem pass0 {X : Cx} : Passes CX0 X E0 := fun _ _ _ _ _ _ _ h => h.elim
structure Fun (K : PySem.W.Frag) (x qual : Str) (st : Stmt) (f : Addr) (fd : FuncData) : Prop where
 ex : ∃ (oc : Value) (od : Option Addr) (kV doc pm : Value) (an : Option Addr) (cdv ct : Value) (osl : Array (Option Value)),
  fd = PySem.W.fnOf x qual (defArgs st) (defBody st) (defScope st) .none kV doc pm an cdv ct /\ K.lookup f = some ⟨oc, od, .func fd, osl⟩ /\ PySem.W.codeIn K cdv qual = true
 kp : PySem.W.keepIn K (.ref f) = true
section
variable {P : Program} {w : World} {K : PySem.W.Frag} {mg : Str -> Option Value} {base : Heap}
theorem Fun.ok {x qual : Str} {st : Stmt} {f : Addr} {fd : FuncData} {N ps : List Str} {k : Nat} {sp : Sp} (F : Fun K x qual st f fd) (S : FnScope N ps (defScope st)) (len : ∀ vs H Q E, sp vs H Q E -> vs.length = ps.length)
  (hbody : ∀ (cdv : Value) (A : Around) (outer : List Env) (s : Shared) (H : Hp) (vs : List V) (Q : VK) (E : XK), Room k (A.deeper (envOfC qual (defScope st) s.heap.objs.size f cdv)) -> sp vs H Q E ->
   ∃ t, PSs (cxOf CX0 P w K mg base N qual (defScope st) f cdv A outer s H E).nox (defBody st) t /\ t { nx := fun _ H' => Q .non H', rt := Q } (start N vs) H) : FnOk P w K mg base CX0 (k + 1) f fd ps sp := by
 obtain ⟨oc, od, kV, doc, pm, an, cdv, ct, osl, rfl, lk, hcd⟩ := F.ex
 refine fn_of lk hcd S len fun A outer s H vs Q E hr hsp => ?_
 obtain ⟨t, h, q⟩ := hbody cdv A outer s H vs Q E hr hsp
 exact ⟨t, h.nox, q⟩
theorem Fun.binds {x qual : Str} {st : Stmt} {f : Addr} {fd : FuncData} {ps : List Str} (F : Fun K x qual st f fd)
  (h : ∀ (kV doc pm : Value) (an : Option Addr) (cdv ct : Value) (us : List Value), us.length = ps.length -> bindArgs (PySem.W.fnOf x qual (defArgs st) (defBody st) (defScope st) .none kV doc pm an cdv ct) ⟨us, []⟩ = pure (ps.zip us)) : Binds K fd ps [] := by
 obtain ⟨oc, od, kV, doc, pm, an, cdv, ct, osl, rfl, lk, hcd⟩ := F.ex
 exact .all (h kV doc pm an cdv ct)
theorem fun_mk {x qual : Str} {st : Stmt} {f : Addr} {oc : Value} {od an : Option Addr} {osl : Array (Option Value)} {kV doc pm cdv ct : Value} (l : K.lookup f = some ⟨oc, od, .func (PySem.W.fnOf x qual (defArgs st) (defBody st) (defScope st) .none kV doc pm an cdv ct), osl⟩)
  (c : PySem.W.codeIn K cdv qual = true) (k : PySem.W.keepIn K (.ref f) = true) : Fun K x qual st f (PySem.W.fnOf x qual (defArgs st) (defBody st) (defScope st) .none kV doc pm an cdv ct) := ⟨⟨oc, od, kV, doc, pm, an, cdv, ct, osl, rfl, l, c⟩, k⟩
end
section
variable {X : Cx}
theorem pv (i : Nat) {x : Str} {pos : Pos} (hN : X.N[i]? = some x := by rfl) (hv : Vis X.env.scope x := by first | exact Or.inl rfl | exact Or.inr (Or.inl rfl) | exact Or.inr (Or.inr rfl)) (hd : (x == ("__debug__" : Str)) = false := by decide)
  (hcd : (x == ("__classdict__" : Str)) = false := by decide) : PE X (.Name x pos) (tVar i) := pe_var hN hv hd hcd
end
noncomputable def Same (H H' : Hp) : Prop := ∀ b o, H b = some o -> H' b = some o
theorem Same.seq {K : PySem.W.Frag} {H H' : Hp} {a : Addr} {xs : List V} (e : Same H H') (h : SqL K H a xs) : SqL K H' a xs := by
 rcases h with (h | ⟨o, h⟩) | h
 ·exact .inl (.inl (e _ _ h))
 ·exact .inl (.inr ⟨o, e _ _ h⟩)
 ·exact .inr h
end L2
namespace L2
open PySem PySem.Spec PyProof.Rows
noncomputable def clOf (env : Env) : List (Str × NameKind) -> List (Str × Addr) -> List (Str × Addr)
 | [], cs => cs
 | (n, k) :: r, cs => clOf env r (if k == .free then (match env.cells.lookup n with | some c => (n, c) :: cs | none => cs) else cs)
theorem clOf_sub {env : Env} : ∀ {l : List (Str × NameKind)} {cs : List (Str × Addr)}, (∀ n c, (n, c) ∈ cs -> env.cells.lookup n = some c) -> ∀ n c, (n, c) ∈ clOf env l cs -> env.cells.lookup n = some c
 | [], cs, h, n, c, m => h n c m
 | (n', k) :: r, cs, h, n, c, m => by
  unfold clOf at m
  refine clOf_sub (l := r) (fun a b q => ?_) n c m
  split at q
  ·split at q
   ·rename_i c' hc
    rcases List.mem_cons.mp q with z | z
    ·cases z; exact hc
    ·exact h a b z
   ·exact h a b q
  ·exact h a b q
theorem clOf_keep {env : Env} : ∀ {l : List (Str × NameKind)} {cs : List (Str × Addr)} {p}, p ∈ cs -> p ∈ clOf env l cs
 | [], _, _, h => h
 | (n, k) :: r, cs, p, h => by
  unfold clOf
  refine clOf_keep (l := r) ?_
  split
  ·split
   ·exact List.mem_cons_of_mem _ h
   ·exact h
  ·exact h
theorem clOf_has {env : Env} : ∀ {l : List (Str × NameKind)} {cs : List (Str × Addr)} {n : Str} {c : Addr}, (n, NameKind.free) ∈ l -> env.cells.lookup n = some c -> (n, c) ∈ clOf env l cs
 | [], _, _, _, h, _ => by cases h
 | (n', k) :: r, cs, n, c, h, e => by
  unfold clOf
  rcases List.mem_cons.mp h with z | z
  ·cases z
   refine clOf_keep ?_
   simp [e]
  ·exact clOf_has z e
theorem closureFor_cl {scope : Scope} {env : Env} (h : ∀ n, (n, NameKind.free) ∈ scope.names -> ∃ c, env.cells.lookup n = some c) : closureFor scope env = pure (clOf env scope.names []) := by
 have all : ∀ (l : List (Str × NameKind)) (cs : List (Str × Addr)), (∀ n, (n, NameKind.free) ∈ l -> ∃ c, env.cells.lookup n = some c) ->
   (forIn l cs (fun (x : Str × NameKind) (r : List (Str × Addr)) => (match x with | (name, kind) => if (kind == NameKind.free) = true then (do let a ← cellOf env name; pure (ForInStep.yield ((name, a) :: r))) else pure (ForInStep.yield r) : Sem (ForInStep (List (Str × Addr)))))) = (pure (clOf env l cs) : Sem (List (Str × Addr))) := by
  intro l
  induction l with
  | nil => intro cs _; rfl
  | cons p r ih =>
   intro cs hl
   obtain ⟨n, k⟩ := p
   have hr : ∀ n, (n, NameKind.free) ∈ r -> ∃ c, env.cells.lookup n = some c := fun n m => hl n (List.mem_cons_of_mem _ m)
   rw [List.forIn_cons]
   unfold clOf
   by_cases hk : k = .free
   ·subst hk
    obtain ⟨c, hc⟩ := hl n List.mem_cons_self
    have e : cellOf env n = pure c := by unfold cellOf; rw [hc]
    simp only [beq_self_eq_true, if_true, e, hc]
    exact ih _ hr
   ·have hb : (k == NameKind.free) = false := by simpa using hk
    simp only [hb, Bool.false_eq_true, if_false]; exact ih _ hr
 unfold closureFor
 exact (congrArg (fun (z : Sem (List (Str × Addr))) => z >>= fun r => pure r) (all scope.names [] h)).trans rfl
noncomputable def cxLc (X : Cx) (own caps : List Str) (scope : Scope) (C : Addr) (fp : List Addr) (s : Shared) (H : Hp) : Cx where
 prog := X.prog
 w := X.w
 K := X.K
 mg := X.mg
 base := X.base
 A := X.A
 N := own ++ caps
 s₀ := s
 H₀ := H
 env := compEnvC scope (clOf X.env scope.names []) C X.env
 outer := X.stack
 stack := X.stack
 ex := fp
 fn := fun _ => false
 calm := X.calm
 pn := []
 xe := fun _ _ => False
noncomputable def CapOk (X : Cx) (scope : Scope) (y : Str) (j : Nat) : Prop := X.N[j]? = some y /\ Vis X.env.scope y /\ (X.env.kindOf y == some .local) = false /\ ((relabel scope X.env).names.lookup y == some .cell || (relabel scope X.env).names.lookup y == some .free) = true
noncomputable def Caps (X : Cx) (scope : Scope) : List Str -> List Nat -> Prop
 | [], [] => True
 | y :: ys, j :: js => CapOk X scope y j /\ Caps X scope ys js
 | _, _ => False
noncomputable def capV (σ : St) (js : List Nat) : St := js.map fun j => (σ[j]?).join
theorem Caps.at {X : Cx} {scope : Scope} {σ : St} : ∀ {ys : List Str} {js : List Nat} {i : Nat} {y : Str} {v : V}, Caps X scope ys js -> ys[i]? = some y -> (capV σ js)[i]? = some (some v) -> ∃ j, CapOk X scope y j /\ σ[j]? = some (some v)
 | [], [], i, y, v, _, h, _ => by simp at h
 | a :: ys, j :: js, 0, y, v, c, h, e => by
  simp at h; subst h
  refine ⟨j, c.1, ?_⟩
  simp [capV] at e
  cases q : σ[j]? with
  | none =>
   rw [q] at e
   cases e
  | some o =>
   rw [q] at e
   simp at e
   rw [e]
 | a :: ys, j :: js, i + 1, y, v, c, h, e => Caps.at (i := i) c.2 (by simpa using h) (by simpa [capV] using e)
 | [], _ :: _, _, _, _, c, _, _ => c.elim
 | _ :: _, [], _, _, _, c, _, _ => c.elim
theorem Caps.len {X : Cx} {scope : Scope} {σ : St} : ∀ {ys : List Str} {js : List Nat}, Caps X scope ys js -> (capV σ js).length = ys.length
 | [], [], _ => rfl
 | a :: ys, j :: js, c => by simp only [capV, List.map_cons, List.length_cons]; exact congrArg (· + 1) (Caps.len (σ := σ) c.2)
 | [], _ :: _, c => c.elim
 | _ :: _, [], c => c.elim
theorem relabel_free {env : Env} : ∀ {names : List (Str × NameKind)} {x : Str}, (∀ p ∈ names, p.2 ≠ .cell) ->
  ((names.map fun (n, k) => if (k == NameKind.free && env.scope.kind == .function && env.kindOf n == some .cell) then (n, NameKind.cell) else (n, k)).lookup x = some .cell \/
    (names.map fun (n, k) => if (k == NameKind.free && env.scope.kind == .function && env.kindOf n == some .cell) then (n, NameKind.cell) else (n, k)).lookup x = some .free) -> (x, NameKind.free) ∈ names
 | [], _, _, h => by simp at h
 | (n, k) :: r, x, hc, h => by
  have hr : ∀ p ∈ r, p.2 ≠ .cell := fun p hp => hc p (List.mem_cons_of_mem _ hp)
  have hk : k ≠ .cell := hc (n, k) List.mem_cons_self
  have step : ∀ (b : Bool), (List.lookup x ((if b = true then (n, NameKind.cell) else (n, k)) :: r.map fun (n, k) => if (k == NameKind.free && env.scope.kind == .function && env.kindOf n == some .cell) then (n, NameKind.cell) else (n, k)) = some .cell \/
     List.lookup x ((if b = true then (n, NameKind.cell) else (n, k)) :: r.map fun (n, k) => if (k == NameKind.free && env.scope.kind == .function && env.kindOf n == some .cell) then (n, NameKind.cell) else (n, k)) = some .free) -> (b = true -> k = .free) -> (x, NameKind.free) ∈ (n, k) :: r := by
   intro b q hb
   cases hx : x == n with
   | true =>
    have e : x = n := by simpa using hx
    subst e
    cases b with
    | true => rw [hb rfl]; exact List.mem_cons_self
    | false =>
     simp [List.lookup_cons] at q
     rcases q with q | q
     ·exact absurd q hk
     ·rw [q]; exact List.mem_cons_self
   | false =>
    refine List.mem_cons_of_mem _ (relabel_free (env := env) hr ?_)
    cases b <;> simpa [List.lookup_cons, hx] using q
  exact step _ h fun q => by simp at q; exact q.1.1
noncomputable def PIfs (X : Cx) (ifs : List Expr) (t : TT) : Prop :=
 ∀ (pins : List (Addr × Obj)) (s : Shared) (σ : St) (H : Hp) (Q : Bool -> Hp -> Prop), Inv X pins σ H s -> t σ H Q ->
  wpAny (model X.prog X.w) X.A (forIn ifs true fun c r => if r = true then do let ok ← isTrue c X.env (eval c X.env); pure (ForInStep.yield ok) else pure (ForInStep.yield r)) (TP X pins σ Q) X.xe s
noncomputable def tYes : TT := fun _ H Q => Q true H
theorem pifs_nil {X : Cx} : PIfs X [] tYes := fun _ _ _ H _ I h => wpAny_tests_nil ⟨H, I, h⟩
abbrev Wn (P : Program) (w : World) (A : Around) {α : Type} (m : Sem α) (Q : α -> Shared -> Prop) (s : Shared) : Prop := wpAny (model P w) A m Q (fun _ _ => False) s
abbrev ifsRun (env : Env) (l : List Expr) : Sem Bool := forIn l true fun c r => if r = true then do let b ← isTrue c env (eval c env); pure (ForInStep.yield b) else pure (ForInStep.yield r)
noncomputable def LcTurn (P : Program) (w : World) (A : Around) (it acc : Value) (tg elt : Expr) (l : List Expr) (env : Env) (fin : Shared -> Prop) (again : Shared -> Prop) (s : Shared) : Prop :=
 Wn P w A (pyNext it) (fun r a => match r with
  | none => fin a
  | some v => Wn P w A (letOwnedTupleGo tg it v) (fun _ b => Wn P w A (assign tg env v) (fun _ c => Wn P w A (ifsRun env l) (fun ok d =>
    if ok = true then Wn P w A (eval elt env) (fun x e => Wn P w A (call (.builtin "list.append") [acc, x]) (fun _ g => again g) e) d else again d) c) b) a) s
theorem lc_loop {P : Program} {w : World} {A : Around} {R : Result -> Shared -> Prop} {s : Shared} {elt tg iter : Expr} {l : List Expr} {sc : Scope} {pos : Pos} {it acc : Value} {env : Env} (J : Nat -> Shared -> Prop)
  (turn : ∀ n s, J n s -> LcTurn P w A it acc tg elt l env (R (.ok .next)) (fun z => ∃ m, m < n /\ J m z) s) (n : Nat) (h : J n s) : codeAny (model P w) A (.compLoop (.ListComp elt [⟨tg, iter, l, 0⟩] sc pos) 0 it acc env) R s := by
 refine codeAny_loop rfl J (fun k z hz => ?_) n h
 have one := turn k z hz
 show wpAny _ A (Sem.onRaise (compTurn (.ListComp elt [⟨tg, iter, l, 0⟩] sc pos) 0 it acc env) fun x => do noteFrame x env; theTreesLotGoes x) _ _ z
 refine wpAny_noted ?_
 rw [compTurn_list]
 refine wpAny_bind (wpAny_standAt (wpAny_bind (wpAny_mono one (fun r a ha => ?_) fun _ _ f => f.elim)))
 cases r with
 | none => exact wpAny_pure ha
 | some v =>
  refine wpAny_bind (wpAny_mono ha (fun _ b hb => wpAny_bind (wpAny_mono hb (fun _ c hc => wpAny_bind (wpAny_mono hc (fun ok d hd => ?_) fun _ _ f => f.elim)) fun _ _ f => f.elim)) fun _ _ f => f.elim)
  cases ok with
  | false =>
   have q : ∃ m, m < k /\ J m d := hd
   exact wpAny_pure ⟨rfl, q⟩
  | true =>
   have q : Wn P w A (eval elt env) (fun x e => Wn P w A (call (.builtin "list.append") [acc, x]) (fun _ g => ∃ m, m < k /\ J m g) e) d := hd
   exact wpAny_bind (wpAny_bind (wpAny_mono q (fun x e he => wpAny_bind (wpAny_mono he (fun _ g hg => wpAny_pure (wpAny_pure ⟨rfl, hg⟩)) fun _ _ f => f.elim)) fun _ _ f => f.elim))
noncomputable def tLcB (g : TG) (tt : TT) (te : TE) (k : Nat) (cap : St) (J : It) (H1 : Hp) (Q : VK) : Prop :=
 ∀ D, H1 D = none -> ∃ W : Nat -> Nat -> List V -> Hp -> Prop, (∃ m, W 0 m [] (upd H1 D (.lst []))) /\ ∀ i m ys H, H D = some (.lst ys) -> W i m ys H ->
  (J.stop i H /\ Q (.ref D) H) \/ (J.go i H /\ ∀ x H', J.yld i H x H' -> ∀ vs : St, vs.length = k -> g x (vs ++ cap) H' fun σ2 H2 => (∃ vs' : St, vs'.length = k /\ σ2 = vs' ++ cap) /\ tt σ2 H2 fun b H3 =>
   if b = true then te σ2 H3 fun v H4 => H4 D = some (.lst ys) /\ ys.length < sizeLine /\ ∃ m', m' < m /\ W (i + 1) m' (ys ++ [v]) (upd H4 D (.lst (ys ++ [v]))) else H3 D = some (.lst ys) /\ ∃ m', m' < m /\ W (i + 1) m' ys H3)
noncomputable def tLc (js : List Nat) (k : Nat) (wi : TI) (g : TG) (tt : TT) (te : TE) : TE := fun σ H Q => wi σ H fun J H1 => tLcB g tt te k (capV σ js) J H1 Q
section
variable {X : Cx} {own caps : List Str} {js : List Nat} {scope : Scope} {tg iter elt : Expr} {ifs : List Expr} {wi : TI} {g : TG} {tt : TT} {te : TE} {pos : Pos}
theorem lc_run {pins : List (Addr × Obj)} {σ : St} {H2 : Hp} {s2 : Shared} {it : Addr} {fp : List Addr} {tn : Nat -> Heap -> Prop} {J : It} {Q : VK} {post : Value -> Addr -> Result -> Shared -> Prop} {E : Value -> Shared -> Prop}
  (hcalm : X.calm = true) (hkind : scope.kind = .function) (hcell : (scope.names.any fun p => p.2 == .cell) = false) (hk : (scope.names.all fun p => !(p.2 == .free) || (X.env.kindOf p.1 == some .cell || X.env.kindOf p.1 == some .free)) = true)
  (hcap : Caps X scope caps js) (hg : ∀ C fp s H, PG (cxLc X own caps scope C fp s H) tg g) (hi : ∀ C fp s H, PIfs (cxLc X own caps scope C fp s H) ifs tt) (he : ∀ C fp s H, PE (cxLc X own caps scope C fp s H) elt te)
  (I2 : Inv X pins σ H2 s2) (T : Turn X.prog X.w X.K tg J fp it tn) (st2 : tn 0 s2.heap) (f2 : ∀ b ∈ fp, FpOk X pins H2 b) (hw : tLcB g tt te own.length (capV σ js) J H2 Q)
  (hpost : ∀ D C s' m H', s'.heap.Ns C m -> s2.heap.objs.size <= C -> FpOk X pins H' C -> Inv X pins σ H' s' -> Q (.ref D) H' -> post (.ref D) C (.ok .next) s') :
  wpAny (model X.prog X.w) X.A (newList []) (fun acc s₃ => wpAny (model X.prog X.w) X.A (newFunctionEnv scope X.env.globals (clOf X.env scope.names []) [] X.env.qual none .none (some X.env)) (fun cenv s₄ =>
   codeAny (model X.prog X.w) X.A (.compStart (.ListComp elt [⟨tg, iter, ifs, 0⟩] scope pos) 0 (.ref it) acc { cenv with scope := relabel scope X.env }) (post acc cenv.locals) s₄) E s₃) E s2 := by
 have hcell' : ∀ y ∈ scope.names, y.2 ≠ .cell := fun y hy e => by
  have := (List.any_eq_false.mp hcell) y hy
  simp [e] at this
 have hfr : ∀ n, (n, NameKind.free) ∈ scope.names -> X.env.kindOf n = some .cell \/ X.env.kindOf n = some .free := fun n hn => by
  have := (List.all_eq_true.mp hk) _ hn
  simpa using this
 refine wpAny_newObj_type (wpAny_newFunctionEnv hcell' (by intro y hy; simp at hy) (fun h₁ hns₁ hsb₁ => ?_) hkind)
 dsimp only at hns₁ hsb₁ ⊢
 generalize hHp : s2.heap.push { cls := .type "list", dict := none, data := .seq ([] : List Value).toArray } = G2 at hns₁ hsb₁ ⊢
 have hC : G2.objs.size = s2.heap.objs.size + 1 := by rw [← hHp, Heap.size_push]
 obtain ⟨D, hDe⟩ : ∃ D : Nat, s2.heap.objs.size = D := ⟨_, rfl⟩
 obtain ⟨C, hCe⟩ : ∃ C : Nat, G2.objs.size = C := ⟨_, rfl⟩
 rw [hCe] at hns₁ hsb₁
 rw [hDe, hCe] at hC
 show codeAny _ _ (.compStart _ 0 (.ref it) (.ref s2.heap.objs.size) (compEnvC scope (clOf X.env scope.names []) G2.objs.size X.env)) (post (.ref s2.heap.objs.size) G2.objs.size) _
 rw [hDe, hCe]
 have hDC : D ≠ C := by omega
 have hDCl : D < C := by omega
 have old : ∀ b o, s2.heap.get? b = some o -> h₁.get? b = some o := fun b o e => by
  have hlt : b < D := hDe ▸ Heap.lt_size e
  exact hsb₁.extBut b o (Nat.ne_of_lt (Nat.lt_trans hlt hDCl)) (Heap.get?_push_of_some _ (hHp ▸ Heap.get?_push_of_some _ e))
 have hD2 : H2 D = none := I2.hok.fresh (Nat.le_of_eq hDe)
 have hC2 : H2 C = none := I2.hok.fresh (by rw [hDe]; omega)
 have accD : h₁.get? D = some { cls := .type "list", data := .seq ([] : List Value).toArray } := hsb₁.extBut _ _ hDC (Heap.get?_push_of_some _ (hHp ▸ hDe ▸ Heap.get?_push_size _ rfl))
 obtain ⟨W, ⟨m0, w0⟩, turn⟩ := hw D hD2
 -- the block's own state
 have fpn : ∀ b ∈ fp, H2 b = none := fun b hb => (f2 b hb).1
 have fplt : ∀ b ∈ fp, b < D := fun b hb => by obtain ⟨o, e, _⟩ := T.obj _ _ st2 b hb; exact hDe ▸ Heap.lt_size e
 have clsub : ∀ n c, (n, c) ∈ clOf X.env scope.names [] -> X.env.cells.lookup n = some c := clOf_sub (by intro _ _ z; cases z)
 have cllook : ∀ n c, (clOf X.env scope.names []).lookup n = some c -> X.env.cells.lookup n = some c := fun n c e => clsub n c (PySem.mem_of_lookup e)
 have clhas : ∀ n, (n, NameKind.free) ∈ scope.names -> ∃ c, (clOf X.env scope.names []).lookup n = some c /\ X.env.cells.lookup n = some c := fun n hn => by
  obtain ⟨c, e⟩ := I2.ok.has n (hfr n hn)
  have m := clOf_has (cs := []) hn e
  cases q : (clOf X.env scope.names []).lookup n with
  | none =>
   have := List.lookup_eq_none_iff.mp q _ m
   simp at this
  | some c' => exact ⟨c', rfl, cllook n c' q⟩
 have clt : ∀ x c, (clOf X.env scope.names []).lookup x = some c -> c < D := fun x c e => by
  obtain ⟨v, z⟩ := I2.cell x c (cllook x c e)
  exact hDe ▸ z.lt
 have ok' : (cxLc X own caps scope C fp s2 H2).Ok := by
  refine ⟨I2.ok.mod, hkind, I2.ok.glob, I2.ok.blt, ?_, fun x y c e1 e2 => I2.ok.inj x y c (cllook x c e1) (cllook y c e2), fun x hx => ?_, fun x c z => (by cases z), I2.ok.hd, I2.ok.frames, .inl rfl, fun b hb => ⟨?_, fun x c e => ?_⟩, I2.bs, Nat.le_trans I2.ok.bsz I2.sz, fun b o e hb => ?_, fun b hb hs => ?_, I2.stack, I2.stkFree⟩
  ·show s2.heap.objs.size <= C
   rw [hDe]; omega
  ·have hx' : (relabel scope X.env).names.lookup x = some .cell \/ (relabel scope X.env).names.lookup x = some .free := hx
   obtain ⟨c, e, _⟩ := clhas x (relabel_free hcell' hx')
   exact ⟨c, e⟩
  ·exact Nat.ne_of_lt (Nat.lt_trans (fplt b hb) hDCl)
  ·exact (f2 b hb).2.2.2.2.1 x c (cllook x c e)
  ·rcases (f2 b hb).2.2.2.1 with z | z
   ·exact I2.ok.noex b o e z
   ·exact absurd (Nat.lt_of_lt_of_le (Heap.lt_size (I2.ok.bs b o e).1) z) (Nat.lt_irrefl _)
  ·rcases List.mem_cons.mp (I2.stkSub b hs) with z | z
   ·exact (f2 b hb).2.1 z
   ·exact (f2 b hb).2.2.1 z
 have I4 : Inv (cxLc X own caps scope C fp s2 H2) [] (List.replicate own.length none ++ capV σ js) (upd H2 D (.lst [])) { s2 with heap := h₁, toks := s2.toks + ([] : List (Str × Value)).length } := by
  refine ⟨ok', rfl, I2.bare, Un.laid old (Nat.le_of_eq hDe) hD2, ⟨_, hns₁, fun i x v e1 e2 e3 => ?_⟩, fun x c e => ?_, ?_, fun x c e => ?_, fun p hp => absurd (show p ∈ ([] : List (Addr × Obj)) from hp) (by simp), ?_, ?_⟩
  ·have e1 : (own ++ caps)[i]? = some x := e1
   by_cases hio : i < own.length
   ·rw [List.getElem?_append_left (by simpa using hio), List.getElem?_replicate] at e2
    split at e2 <;> cases e2
   ·have hle : own.length <= i := Nat.le_of_not_lt hio
    rw [List.getElem?_append_right hle] at e1
    rw [List.getElem?_append_right (by simpa using hle)] at e2
    obtain ⟨j, c, e⟩ := Caps.at (σ := σ) hcap e1 (by simpa using e2)
    obtain ⟨c1, c2, c3, c4⟩ := c
    obtain ⟨m, hn, hl⟩ := I2.loc
    obtain ⟨u, r, lk⟩ := hl j x v c1 e c2
    refine ⟨u, r, .inr ⟨?_, ?_⟩⟩
    ·have c4' : (relabel scope X.env).names.lookup x = some .cell \/ (relabel scope X.env).names.lookup x = some .free := by simpa using c4
     exact c4'
    ·have c4' : (relabel scope X.env).names.lookup x = some .cell \/ (relabel scope X.env).names.lookup x = some .free := by simpa using c4
     obtain ⟨c', q1, q2⟩ := clhas x (relabel_free hcell' c4')
     rcases lk with ⟨k1, _⟩ | ⟨_, c'', k2, k3⟩
     ·rw [k1] at c3; simp at c3
     ·rw [q2] at k2; cases k2
      obtain ⟨oc, hoc, hod⟩ := k3
      exact ⟨c', q1, oc, old _ _ hoc, hod⟩
  ·obtain ⟨v, oc, hoc, hod⟩ := I2.cell x c (cllook x c e)
   exact ⟨v, oc, old _ _ hoc, hod⟩
  ·show upd H2 D (.lst []) C = none
   rw [upd_ne (Ne.symm hDC)]; exact hC2
  ·rw [upd_ne (Nat.ne_of_lt (clt x c e))]; exact I2.freeC x c (cllook x c e)
  ·exact I2.hok.laid old (Nat.le_of_eq hDe) ⟨Nat.zero_le _, [], 0, .nil, accD⟩
  ·show (List.replicate own.length none ++ capV σ js).length = (own ++ caps).length
   rw [List.length_append, List.length_append, List.length_replicate, hcap.len]
 have stat : ∀ {H' : Hp}, (∀ b ∈ fp, H' b = none) -> ∀ b ∈ fp, FpOk (cxLc X own caps scope C fp s2 H2) [] H' b := fun hn b hb =>
  ⟨hn b hb, (ok'.exf b hb).1, ok'.exfs b hb, .inl hb, (ok'.exf b hb).2, fun p hp => absurd (show p ∈ ([] : List (Addr × Obj)) from hp) (by simp)⟩
 have loop : ∀ s₃ : Shared, s₃ = { s2 with heap := h₁, toks := s2.toks + ([] : List (Str × Value)).length } ->
   codeAny (model X.prog X.w) X.A (.compLoop (.ListComp elt [⟨tg, iter, ifs, 0⟩] scope pos) 0 (.ref it) (.ref D) (compEnvC scope (clOf X.env scope.names []) C X.env)) (post (.ref D) C) s₃ := by
  rintro s₃ rfl
  refine lc_loop (fun n s' => ∃ i vs ys H', vs.length = own.length /\ Inv (cxLc X own caps scope C fp s2 H2) [] (vs ++ capV σ js) H' s' /\ tn i s'.heap /\ (∀ b ∈ fp, H' b = none) /\ H' D = some (.lst ys) /\ W i n ys H') ?_ m0
   ⟨0, List.replicate own.length none, [], upd H2 D (.lst []), by simp, I4, T.keep _ _ _ st2 fun b _ o e => old b o e, fun b hb => by rw [upd_ne (Nat.ne_of_lt (fplt b hb))]; exact fpn b hb, upd_same, w0⟩
  rintro n s3 ⟨i, vs, ys, H3, hvs, I3, st3, fr3, hD3, w3⟩
  rcases turn i n ys H3 hD3 w3 with ⟨stop, qn⟩ | ⟨go, step⟩
  ·refine thn (T.done (cxLc X own caps scope C fp s2 H2) rfl rfl rfl hcalm i [] s3 _ H3 (fun _ _ => False) I3 (stat fr3) st3 stop) fun r s5 ⟨hr, I5⟩ => ?_
   subst hr
   obtain ⟨m5, hn5, _⟩ := id I5.loc
   refine hpost D C s5 m5 H3 hn5 (by rw [hDe]; omega) (I2.fpOk (by rw [hDe]; omega) I5.free) ?_ qn
   exact I2.call' (ch := fp) I5.os I5.base I5.hok I5.bare fun b hb => ⟨(f2 b hb).2.2.2.1, (f2 b hb).2.1, (f2 b hb).2.2.2.2⟩
  ·refine thn (T.item (cxLc X own caps scope C fp s2 H2) rfl rfl rfl hcalm i [] s3 _ H3 (fun _ _ => False) I3 (stat fr3) st3 go) fun r s4 ⟨u, hr, h4⟩ => ?_
   subst hr
   refine thn h4 fun _ s5 ⟨x, H5, I5, r5, y5, st5, fr5⟩ => ?_
   have I5' := I5.pinned (stat fr5) (T.obj _ _ st5); refine thn (hg C fp s2 H2 _ s5 _ H5 x u _ I5' r5 (step x H5 y5 vs hvs)) fun _ s6 ⟨σ6, H6, I6, ⟨vs6, hvs6, e6⟩, q6⟩ => ?_
   subst e6
   refine thn (hi C fp s2 H2 _ s6 _ H6 _ I6 q6) fun b s7 ⟨H7, I7, q7⟩ => ?_
   have again : ∀ {H8 : Hp} {s8 : Shared} {ys' : List V}, Inv (cxLc X own caps scope C fp s2 H2) ([] ++ pinsAt fp s5.heap) (vs6 ++ capV σ js) H8 s8 -> H8 D = some (.lst ys') -> (∃ m', m' < n /\ W (i + 1) m' ys' H8) ->
     ∃ m, m < n /\ ∃ i vs ys H', vs.length = own.length /\ Inv (cxLc X own caps scope C fp s2 H2) [] (vs ++ capV σ js) H' s8 /\ tn i s8.heap /\ (∀ b ∈ fp, H' b = none) /\ H' D = some (.lst ys) /\ W i m ys H' := fun {H8 s8 ys'} I8 hD8 w8 => by
    obtain ⟨m', hm, w8⟩ := w8
    refine ⟨m', hm, i + 1, vs6, ys', H8, hvs6, I8.unpinned, T.keep _ _ _ st5 fun b hb o e => (I8.pin (b, o) (List.mem_append_right _ (List.mem_append_right _ (mem_pinsAt hb e)))).1, fun b hb => ?_, hD8, w8⟩
    obtain ⟨o, e, d⟩ := T.obj _ _ st5 b hb
    exact (I8.pin (b, o) (List.mem_append_right _ (List.mem_append_right _ (mem_pinsAt hb e)))).2.1
   cases b with
   | false => exact again I7 q7.1 q7.2
   | true =>
    refine thn (he C fp s2 H2 _ s7 _ H7 _ I7 q7) fun y s8 ⟨v, H8, I8, r8, hD8, hz8, q8⟩ => ?_
    refine thn (mt_append (X := cxLc X own caps scope C fp s2 H2) _ s8 _ H8 (.ref D) [v] (.ref D) [y] (fun z H9 => H9 = upd H8 D (.lst (ys ++ [v]))) I8 rfl (.cons r8 .nil) ⟨D, ys, v, rfl, rfl, hD8, hz8, rfl⟩) fun _ s9 ⟨z, H9, I9, _, e9⟩ => ?_
    subst e9
    exact again I9 upd_same q8
 refine codeAny_compStart_list (loop _ rfl) (T.self _ 0 _ _ _ (T.keep _ _ _ st2 fun b _ o e => old b o e) (loop _ rfl))
theorem pe_lc (hcalm : X.calm = true) (hkind : scope.kind = .function) (hnames : (scope.names.all fun p => !(p.2 == .local) || (scope.names.lookup p.1 == some .local)) = true) (hcell : (scope.names.any fun p => p.2 == .cell) = false)
  (hk : (scope.names.all fun p => !(p.2 == .free) || (X.env.kindOf p.1 == some .cell || X.env.kindOf p.1 == some .free)) = true)
  (hcap : Caps X scope caps js) (hi : PI X tg iter wi) (hg : ∀ C fp s H, PG (cxLc X own caps scope C fp s H) tg g) (ht : ∀ C fp s H, PIfs (cxLc X own caps scope C fp s H) ifs tt) (he : ∀ C fp s H, PE (cxLc X own caps scope C fp s H) elt te)
  (hs : ∀ x, foldedSetIterable iter X.env x = pure x := by intro _; rfl) : PE X (.ListComp elt [⟨tg, iter, ifs, 0⟩] scope pos) (tLc js own.length wi g tt te) := by
 refine ⟨?_⟩
 intro pins s σ H Q I h
 have hfr : ∀ n, (n, NameKind.free) ∈ scope.names -> X.env.kindOf n = some .cell \/ X.env.kindOf n = some .free := fun n hn => by
  have := (List.all_eq_true.mp hk) _ hn
  simpa using this
 have hn' : ∀ x ∈ scope.names, x.2 = .local -> scope.names.lookup x.1 = some .local := fun x hx e => by
  have := (List.all_eq_true.mp hnames) _ hx
  simpa [e] using this
 rw [eval_ListComp]
 refine wpAny_comprehension_free (use := none) rfl hs (closureFor_cl fun n hn => I.ok.has n (hfr n hn)) hkind hn' (thn (hi pins s σ H _ I h) fun v s1 h1 => thn h1 fun itv s2 h2 => ?_)
 obtain ⟨it, fp, tn, J, H2, e, I2, T, st2, f2, hw⟩ := h2
 subst e
 refine lc_run (iter := iter) (pos := pos) (post := fun acc C => compPost (model X.prog X.w) X.A X.xe none (EP X pins σ Q) acc C) hcalm hkind hcell hk hcap hg ht he I2 T st2 f2 hw ?_
 intro D C s' m H' hn _ f hI hq
 exact ⟨m, hn, fun h' hs' => ⟨.ref D, H', hI.turned (t' := s'.toks) (fun b o hb e => (hs'.2 b hb).trans e) f.1 f.2.1 f.2.2.2.1 f.2.2.2.2.1 f.2.2.2.2.2, rfl, hq⟩⟩
end
end L2
namespace L2
open PySem PySem.Spec PyProof.Rows
noncomputable def Cal (P : Program) (w : World) (K : PySem.W.Frag) (mg : Str -> Option Value) (base : Heap) (x : Str) (k : Nat) (sp : Sp) : Prop :=
 ∃ (f : Addr) (fd : FuncData) (ps : List Str), FnOk P w K mg base CX0 k f fd ps sp /\ mg x = some (.ref f) /\ PySem.W.keepIn K (.ref f) = true /\ Binds K fd ps []
noncomputable def Has (K : PySem.W.Frag) (mg : Str -> Option Value) (x : Str) (st : Stmt) (ps : List Str) : Prop :=
 ∃ (f : Addr) (fd : FuncData), Fun K x x st f fd /\ mg x = some (.ref f) /\ Binds K fd ps []
section
variable {P : Program} {w : World} {K : PySem.W.Frag} {mg : Str -> Option Value} {base : Heap} {x : Str} {st : Stmt} {N ps : List Str} {k : Nat} {sp : Sp}
theorem Has.cal (h : Has K mg x st ps) (S : FnScope N ps (defScope st)) (len : ∀ vs H Q E, sp vs H Q E -> vs.length = ps.length)
  (hbody : ∀ (f : Addr) (cdv : Value) (A : Around) (outer : List Env) (s : Shared) (H : Hp) (vs : List V) (Q : VK) (E : XK), Room k (A.deeper (envOfC x (defScope st) s.heap.objs.size f cdv)) -> sp vs H Q E ->
   ∃ t, PSs (cxOf CX0 P w K mg base N x (defScope st) f cdv A outer s H E).nox (defBody st) t /\ t { nx := fun _ H' => Q .non H', rt := Q } (start N vs) H) : Cal P w K mg base x (k + 1) sp := by
 obtain ⟨f, fd, F, m, b⟩ := h
 exact ⟨f, fd, ps, F.ok S len (hbody f), m, F.kp, b⟩
end
section
variable {X : Cx} {x : Str} {k : Nat} {sp : Sp} {p pos : Pos} {e : Expr} {es : List Expr} {t : TA}
theorem pe_c (c : Cal X.prog X.w X.K X.mg X.base x k sp) (hr : Room k X.A) (ha : PA X (e :: es) t) (hg : Gl X x := by rfl) (hdb : (x == ("__debug__" : Str)) = false := by decide)
  (he : starEach (e :: es) X.env = (false, eval e X.env) :: starEach es X.env := by rfl) (hpl : (backTo pos (starEach es X.env)).any (·.1) = false := by rfl) : PE X (.Call (.Name x p) (e :: es) [] pos) (tCall sp [] E0 t) := by
 obtain ⟨f, fd, ps, F, m, kk, b⟩ := c
 exact pe_call F hr hg m kk b .nil pass0 ha hdb he hpl
end
end L2
namespace L2
open PySem PySem.Spec PyProof.Rows
theorem b_len : bootBuiltins "len" = some (.builtin "len") := by decide +kernel
theorem b_repr : bootBuiltins "repr" = some (.builtin "repr") := by decide +kernel
theorem b_isinstance : bootBuiltins "isinstance" = some (.builtin "isinstance") := by decide +kernel
theorem b_list : bootBuiltins "list" = some (.type "list") := by decide +kernel
theorem b_tuple : bootBuiltins "tuple" = some (.type "tuple") := by decide +kernel
end L2
namespace L2
open PySem PySem.Spec PyProof.Rows
noncomputable def conV : Const -> Option V
 | .str x => some (.str x)
 | .int i => some (.int i)
 | .bool b => some (.bl b)
 | .none => some .non
 | _ => none
noncomputable def conOf : List Expr -> Option (List V)
 | [] => some []
 | .Constant c _ _ :: r => match conV c with
  | some v => match conOf r with
   | some vs => some (v :: vs)
   | none => none
  | none => none
 | _ => none
theorem star_con {c : Const} {j : Nat} {pos : Pos} {es : List Expr} {env : Env} : starEach (.Constant c j pos :: es) env = (false, eval (.Constant c j pos) env) :: starEach es env := by rfl
noncomputable def tVs (vs : List V) : TA := fun _ H Q => Q vs H
section
variable {X : Cx}
theorem pe_con1 {c : Const} {j : Nat} {pos : Pos} {v : V} (h : conV c = some v) : PE X (.Constant c j pos) (tC v) := by
 cases c <;> simp [conV] at h <;> subst h
 all_goals first
  | exact pe_str
  | exact pe_int
  | exact pe_bl
  | exact pe_non
theorem pa_consts : ∀ {es : List Expr} {vs : List V}, conOf es = some vs -> PA X es (tVs vs)
 | [], vs, h => by
  cases h
  exact pa_nil
 | e :: es, vs, h => by
  cases e with
  | Constant c j pos =>
   simp only [conOf] at h
   cases h1 : conV c with
   | none =>
    rw [h1] at h
    cases h
   | some v =>
    rw [h1] at h
    cases h2 : conOf es with
    | none => rw [h2] at h; cases h
    | some ws =>
     rw [h2] at h
     cases h
     have p := pa_cons (pe_con1 (X := X) (pos := pos) (j := j) h1) (pa_consts h2) star_con
     exact p
  | _ => simp [conOf] at h
end
end L2
namespace L2
open PySem PySem.Spec PyProof.Rows
structure New (H : Hp) (p : Addr) (o : HO) (H' : Hp) : Prop where
 no : H p = none
 eq : H' = upd H p o
theorem New.at {H H' : Hp} {p : Addr} {o : HO} (n : New H p o H') : H' p = some o := by rw [n.eq, upd_same]
theorem New.keep {H H' : Hp} {p b : Addr} {o u : HO} (n : New H p o H') (e : H b = some u) : H' b = some u := by rw [n.eq, upd_ne (ne_of_none e n.no)]; exact e
structure Chg (H : Hp) (p : Addr) (o : HO) (H' : Hp) : Prop where
 eq : H' = upd H p o
theorem Chg.at {H H' : Hp} {p : Addr} {o : HO} (n : Chg H p o H') : H' p = some o := by rw [n.eq, upd_same]
theorem Chg.keep {H H' : Hp} {p b : Addr} {o u : HO} (n : Chg H p o H') (h : b ≠ p) (e : H b = some u) : H' b = some u := by rw [n.eq, upd_ne h]; exact e
section
variable {X : Cx}
theorem PE.weak {e : Expr} {t t' : TE} (h : PE X e t) (k : ∀ σ H Q, t' σ H Q -> t σ H Q) : PE X e t' := .mk <| fun pins s σ H Q I q => h pins s σ H Q I (k σ H Q q)
theorem OpR.weak {f : Value -> Value -> Sem Value} {r r' : R2} (h : OpR X f r) (k : ∀ x y H Q, r' x y H Q -> r x y H Q) : OpR X f r' := fun pins s σ H x y v u Q I rx ry q => h pins s σ H x y v u Q I rx ry (k x y H Q q)
theorem CallR.weak {f : Value} {r r' : List V -> Hp -> VK -> Prop} (h : CallR X f r) (k : ∀ xs H Q, r' xs H Q -> r xs H Q) : CallR X f r' := fun pins s σ H xs us Q I rv q => h pins s σ H xs us Q I rv (k xs H Q q)
theorem SlR.weak {r r' : V -> Option Int -> Option Int -> Hp -> VK -> Prop} (h : SlR X r) (k : ∀ x lo hi H Q, r' x lo hi H Q -> r x lo hi H Q) : SlR X r' := by
 intro pins s σ H x v vl vu lo hi sl Q I rx hs pl pu q
 exact h pins s σ H x v vl vu lo hi sl Q I rx hs pl pu (k x lo hi H Q q)
theorem PSet.weak {t t' : TSet} (h : PSet X t) (k : ∀ o i v H Q, t' o i v H Q -> t o i v H Q) : PSet X t' := fun pins s σ H o i v ov iv u Q I ro ri rv q => h pins s σ H o i v ov iv u Q I ro ri rv (k o i v H Q q)
noncomputable def tTupN (t : TA) : TE := fun σ H Q => t σ H fun xs H1 => xs.length <= sizeLine /\ ∀ p H', New H1 p (.tup xs) H' -> Q (.ref p) H'
noncomputable def tLstN (t : TA) : TE := fun σ H Q => t σ H fun xs H1 => xs.length <= sizeLine /\ ∀ p H', New H1 p (.lst xs) H' -> Q (.ref p) H'
theorem pe_tupN {es : List Expr} {t : TA} {x1 pos} (h : PA X es t) : PE X (.Tuple es x1 pos) (tTupN t) := by
 refine ⟨?_⟩
 intro pins s σ H Q I hq
 refine wpAny_Tuple_spliced (thn (h pos pins s σ H _ I hq) fun us s1 ⟨xs, H1, I1, r, z, q⟩ => ⟨by rw [← r.length]; exact z, ?_⟩)
 have hf : H1 s1.heap.objs.size = none := I1.hok.fresh (Nat.le_refl _)
 refine ⟨.ref s1.heap.objs.size, upd H1 s1.heap.objs.size (.tup xs), I1.laid (t' := s1.toks) (fun b u e => Heap.get?_push_of_some _ e) (Nat.le_refl _) ?_, rfl, q _ _ ⟨hf, rfl⟩⟩
 exact ⟨z, us, r, ⟨_, Heap.get?_push_size _ rfl⟩⟩
theorem pe_lstN {es : List Expr} {t : TA} {pos} (h : PA X es t) : PE X (.List es pos) (tLstN t) := by
 refine ⟨?_⟩
 intro pins s σ H Q I hq
 refine wpAny_List_spliced (thn (h pos pins s σ H _ I hq) fun us s1 ⟨xs, H1, I1, r, z, q⟩ => ⟨by rw [← r.length]; exact z, ?_⟩)
 have hf : H1 s1.heap.objs.size = none := I1.hok.fresh (Nat.le_refl _)
 refine ⟨.ref s1.heap.objs.size, upd H1 s1.heap.objs.size (.lst xs), I1.laid (t' := s1.toks) (fun b u e => Heap.get?_push_of_some _ e) (Nat.le_refl _) ?_, rfl, q _ _ ⟨hf, rfl⟩⟩
 exact ⟨z, us, 0, r, Heap.get?_push_size _ rfl⟩
noncomputable def rSlLN (K : PySem.W.Frag) : V -> Option Int -> Option Int -> Hp -> VK -> Prop := fun x lo hi H Q => ∃ a xs, x = .ref a /\ SqL K H a xs /\ ∀ p H', New H p (.lst (cutV xs lo hi)) H' -> Q (.ref p) H'
theorem sl_listN : SlR X (rSlLN X.K) := sl_list.weak fun x lo hi H Q ⟨a, xs, e, h, q⟩ => ⟨a, xs, e, h, fun p hp => q p _ ⟨hp, rfl⟩⟩
noncomputable def rSlTN (K : PySem.W.Frag) : V -> Option Int -> Option Int -> Hp -> VK -> Prop := fun x lo hi H Q => ∃ a xs, x = .ref a /\ SqT K H a xs /\ ¬ (HT.sIx xs.length 0 lo = 0 /\ HT.sIx xs.length xs.length hi = xs.length) /\ ∀ p H', New H p (.tup (cutV xs lo hi)) H' -> Q (.ref p) H'
theorem sl_tupN : SlR X (rSlTN X.K) := sl_tup.weak fun x lo hi H Q ⟨a, xs, e, h, n, q⟩ => ⟨a, xs, e, h, n, fun p hp => q p _ ⟨hp, rfl⟩⟩
noncomputable def rCatN : R2 := fun x y H Q => ∃ l b xs zs, x = .ref l /\ y = .ref b /\ H l = some (.lst xs) /\ H b = some (.lst zs) /\ xs.length + zs.length <= sizeLine /\ ∀ p H', New H p (.lst (xs ++ zs)) H' -> Q (.ref p) H'
theorem op_catN : OpR X (binaryOp .Add) rCatN := op_cat.weak fun x y H Q ⟨l, b, xs, zs, e1, e2, h1, h2, n, q⟩ => ⟨l, b, xs, zs, e1, e2, h1, h2, n, fun p hp => q p _ ⟨hp, rfl⟩⟩
theorem call_listN : CallR X (.type "list") (fun xs H Q => ∃ p ys, xs = [.ref p] /\ (SqL X.K H p ys \/ SqT X.K H p ys) /\ ∀ l H', New H l (.lst ys) H' -> Q (.ref l) H') :=
 call_list_of.weak fun xs H Q ⟨p, ys, e, h, q⟩ => ⟨p, ys, e, h, fun l hl => q l _ ⟨hl, rfl⟩⟩
theorem call_tupleN : CallR X (.type "tuple") (fun xs H Q => ∃ p ys, xs = [.ref p] /\ ((SqL X.K H p ys /\ ∀ l H', New H l (.tup ys) H' -> Q (.ref l) H') \/ (SqT X.K H p ys /\ Q (.ref p) H))) :=
 call_tuple_of.weak fun xs H Q ⟨p, ys, e, h⟩ => ⟨p, ys, e, h.imp (fun ⟨a, q⟩ => ⟨a, fun l hl => q l _ ⟨hl, rfl⟩⟩) id⟩
noncomputable def rSetLN : V -> V -> V -> Hp -> (Hp -> Prop) -> Prop := fun o i v H Q => ∃ p xs k j, o = .ref p /\ i = .int k /\ H p = some (.lst xs) /\ ixN xs.length k = some j /\ ∀ H', Chg H p (.lst (xs.set j v)) H' -> Q H'
theorem set_listN : PSet X rSetLN := set_list.weak fun o i v H Q ⟨p, xs, k, j, e1, e2, h, n, q⟩ => ⟨p, xs, k, j, e1, e2, h, n, q _ ⟨rfl⟩⟩
end
end L2
namespace L2
open PySem PySem.Spec PyProof.Rows
noncomputable def Nx (n : Nat) (Pv : Addr -> Nat -> List V -> Hp -> Prop) (D : Addr) (i : Nat) (ys : List V) (H : Hp) : Prop := ∃ m', m' < n - i /\ m' = n - (i + 1) /\ i + 1 <= n /\ ys.length <= i + 1 /\ Pv D (i + 1) ys H
theorem nx {n : Nat} {Pv : Addr -> Nat -> List V -> Hp -> Prop} {D : Addr} {i : Nat} {ys : List V} {H : Hp} (hi : i < n) (hl : ys.length <= i + 1) (p : Pv D (i + 1) ys H) : Nx n Pv D i ys H := ⟨n - (i + 1), by omega, rfl, hi, hl, p⟩
end L2
namespace L2
open PySem PySem.Spec PyProof.Rows
section
open HT
variable {prog : Program} {w : World} {A : Around} {E : Value -> Shared -> Prop} {s : Shared}
theorem cut_whole {t sl : Addr} {items : Array Value} {vl vu : Value} {lo hi : Option Int} {Q : Value -> Shared -> Prop} (ht : IsTup s.heap t items) (hs : s.heap.IsSliceOf sl vl vu .none) (pl : IsPart vl lo) (pu : IsPart vu hi)
  (hw : sIx items.size 0 lo = 0 /\ sIx items.size items.size hi = items.size) (h : Q (.ref t) s) : wpAny (model prog w) A (getItem (.ref t) (.ref sl)) Q E s := by
 obtain ⟨os, hos, hcs, hds⟩ := id hs
 have hTs : s.TypeIs (.ref sl) "slice" := ⟨os, hos, hcs⟩
 unfold getItem
 try with_reducible refine wpAny_holding ?_
 first | refine wpAny_bind (wpAny_pure ?_) | skip
 refine wpAny_bind (wpAny_sequenceKey ht.typeIs (by decide) (wpAny_bind (wpAny_callSpecial?_slot (name := Str.ofString "__getitem__") ht.typeIs PyProof.Rows.slot_tuple_getitem
  (wpAny_call_entry PyProof.Rows.slot_tuple_getitem ht.typeIs entry_tuple_getitem ?_ (args_tuple_getitem _ _)))))
 show wpAny _ _ (Builtin.Tuple.tupleItemsOf (.ref t) >>= _) _ _ s
 refine wpAny_bind (tupleItemsOf_ ht (wpAny_bind (wpAny_typeOf hTs ?_)))
 rw [if_pos (by decide)]
 refine wpAny_bind (sliceApplied_gen hs pl pu ?_)
 have yes : (((sIx items.size 0 lo : Nat) : Int) == 0 && (1 : Int) == 1 && (sIx items.size items.size hi - sIx items.size 0 lo) == items.size) = true := by
  rw [hw.1, hw.2]; simp
 show wpAny _ _ (if (((sIx items.size 0 lo : Nat) : Int) == 0 && (1 : Int) == 1 && (sIx items.size items.size hi - sIx items.size 0 lo) == items.size) = true then _ else _) _ _ s
 rw [if_pos yes]
 unfold Builtin.Tuple.tupleIsExact
 refine wpAny_bind (wpAny_bind (wpAny_typeOf ht.typeIs (wpAny_pure ?_)))
 rw [if_pos (by decide)]
 exact wpAny_bind (wpAny_rule (wpAny_pure ⟨_, rfl, wpAny_pure h⟩))
end
section
variable {X : Cx}
noncomputable def rSlTA (K : PySem.W.Frag) : V -> Option Int -> Option Int -> Hp -> VK -> Prop := fun x lo hi H Q => ∃ a xs, x = .ref a /\ SqT K H a xs /\ (cutV xs lo hi = xs -> Q (.ref a) H) /\ ∀ p H', New H p (.tup (cutV xs lo hi)) H' -> Q (.ref p) H'
theorem sl_tupA : SlR X (rSlTA X.K) := by
 intro pins s σ H x v vl vu lo hi sl Q I rx hs pl pu h
 obtain ⟨a, xs, rfl, hx, q1, q2⟩ := h
 by_cases c : HT.sIx xs.length 0 lo = 0 /\ HT.sIx xs.length xs.length hi = xs.length
 ·cases rx
  obtain ⟨its, r, ht, hz⟩ := I.tuple hx
  have hlen : its.toArray.size = xs.length := by rw [List.size_toArray]; exact r.length.symm
  refine ⟨"tuple", _, PyProof.Rows.slot_tuple_getitem.lookup, ht.typeIs, ?_⟩
  refine cut_whole ht hs pl pu (by rw [hlen]; exact c) ⟨.ref a, H, I, rfl, q1 ?_⟩
  unfold cutV
  rw [c.1, c.2]; simp
 ·exact sl_tupN pins s σ H (.ref a) v vl vu lo hi sl Q I rx hs pl pu ⟨a, xs, rfl, hx, c, q2⟩
noncomputable def rCatTA (K : PySem.W.Frag) : R2 := fun x y H Q => ∃ a b xs ys, x = .ref a /\ y = .ref b /\ SqT K H a xs /\ SqT K H b ys /\ xs.length + ys.length <= sizeLine /\ (xs = [] -> Q (.ref b) H) /\ (xs ≠ [] -> ys = [] -> Q (.ref a) H) /\ (xs ≠ [] -> ys ≠ [] -> ∀ p H', New H p (.tup (xs ++ ys)) H' -> Q (.ref p) H')
theorem op_catTA : OpR X (binaryOp .Add) (rCatTA X.K) := by
 intro pins s σ H x y v u Q I rx ry h
 obtain ⟨a, b, xs, ys, rfl, rfl, ha, hb, hz, q0, q1, q2⟩ := h
 by_cases c : xs = []
 ·cases rx
  cases ry
  obtain ⟨its, r1, p1, _⟩ := I.tuple ha
  obtain ⟨its2, r2, p2, _⟩ := I.tuple hb
  have e0 : its = [] := r1.nil_iff.mpr c
  subst e0
  obtain ⟨⟨cls, dd, data, sl⟩, ho, hc, n, hd⟩ := id p1
  obtain ⟨⟨cls2, dd2, data2, sl2⟩, ho2, hc2, n2, hd2⟩ := id p2
  simp only at hc hd hc2 hd2
  subst hc hd hc2 hd2
  exact concat_meets ⟨_, ho, rfl⟩ ⟨_, ho2, rfl⟩ noFill_tuple_add seq_tuple_add PySem.F.slot_tuple_add PySem.F.entry_tuple_add (PySem.F.args_tuple_add_2 _ _) (tuple_addW0 a b _ _ n n2 dd dd2 sl sl2 (by simp)) ⟨ho, ho2, ⟨.ref b, H, I, rfl, q0 c⟩⟩
 ·exact op_catT pins s σ H (.ref a) (.ref b) v u Q I rx ry ⟨a, b, xs, ys, rfl, rfl, ha, hb, c, hz, q1 c, fun d p hp => q2 c d p _ ⟨hp, rfl⟩⟩
end
end L2
namespace L2
open PySem PySem.Spec PyProof.Rows
noncomputable def b01 (b : Bool) : Int := if b = true then 1 else 0
noncomputable def numV : V -> Option Int
 | .int i => some i
 | .bl b => some (b01 b)
 | _ => none
section
variable {X : Cx}
theorem op_addL : OpR X (binaryOp .Add) (fun x y H Q => ∃ i j, numV x = some i /\ y = .int j /\ Q (.int (i + j)) H) := by
 intro pins s σ H x y v u Q I rx ry h
 obtain ⟨i, j, hx, rfl, q⟩ := h
 cases x with
 | int k => cases hx; exact op_add pins s σ H _ _ v u Q I rx ry ⟨_, j, rfl, rfl, q⟩
 | bl b =>
  cases hx
  cases rx
  obtain ⟨t', rfl⟩ := ry
  exact PySem.IntBool.add_bool_int ⟨.int (b01 b + j), H, I.tok _, ⟨_, rfl⟩, q⟩
 | _ => cases hx
end
end L2
namespace L2
open PySem PySem.Spec PyProof.Rows
section
variable {X : Cx}
theorem part_of {v : Value} {o : Option Int} (p : IsPart v o) : ∃ q : Option (Int × Tok), v = partValue q /\ q.map (·.1) = o := by
 cases p with
 | none => exact ⟨none, rfl, rfl⟩
 | int i t => exact ⟨some (i, t), rfl, rfl⟩
end
end L2
namespace L2
open PySem PySem.Spec PyProof.Rows PyProof.Rows.KTD
structure TabF (K : PySem.W.Frag) (d : Addr) (D : List (Str × Str)) : Prop where
 tab : ∀ h : Heap, K.In h -> TabOf (fun y v => PySem.W.nsIn K mainGlobals y = some (some v)) h d D
 refs : ∀ k y, datumAt k D = some y -> ∃ f : Addr, PySem.W.nsIn K mainGlobals y = some (some (.ref f))
section
variable {X : Cx}
noncomputable def RunV (X : Cx) (f : Addr) (vs : List V) (H : Hp) (Q : VK) : Prop := ∀ (pins : List (Addr × Obj)) (σ : St) (s : Shared) (us : List Value), Inv X pins σ H s -> Vals vs us -> wpAny (model X.prog X.w) X.A (call (.ref f) us) (EP X pins σ Q) X.xe s
end
end L2
namespace PF
open PySem PySem.Spec
open L2
inductive D where
 | da (d : PyData) | con (ds : List PyData) | frz (ds : List PyData) | set (ds : List PyData)
 | ref (n : Nat) | fn (x : Str) | tabF (T : List (Str × Str)) | ty (n : String)
abbrev D.non : D := .da .none
abbrev D.bl (b : Bool) : D := .da (.bool b)
abbrev D.int (i : Int) : D := .da (.int i)
abbrev D.str (x : Str) : D := .da (.str x)
abbrev D.tup (ds : List PyData) : D := .da (.tuple ds)
abbrev D.lst (ds : List PyData) : D := .da (.list ds)
inductive O where
 | lst (ds : List D) | dct (kvs : List (PyData × D)) | set (ds : List D) | ins (C : Str) (fs : List (Str × D)) | exc (C : Str) (fs : List (Str × D)) | gone
abbrev S := List O
inductive R (α : Type) where
 | ok (a : α) (s : S)
 | bad
noncomputable def R.bind {α β : Type} (r : R α) (f : α -> S -> R β) : R β := match r with
 | .ok a s => f a s
 | .bad => .bad
theorem R.bind_ok {α β : Type} (a : α) (s : S) (f : α -> S -> R β) : (R.ok a s).bind f = f a s := rfl
noncomputable def R.W {α : Type} (r : R α) (Q : α -> S -> Prop) : Prop := match r with
 | .ok a s => Q a s
 | .bad => False
theorem R.W_bind {α β : Type} (r : R α) (f : α -> S -> R β) (Q : β -> S -> Prop) : (r.bind f).W Q = r.W fun a s => (f a s).W Q := by cases r <;> rfl
theorem R.W_mono {α : Type} {r : R α} {Q Q' : α -> S -> Prop} (h : r.W Q) (k : ∀ a s, Q a s -> Q' a s) : r.W Q' := by
 cases r with
 | ok a s => exact k a s h
 | bad => exact h
structure As where
 ix : List (Option Addr)
 hd : List Addr
noncomputable def As.has (as : As) (p : Addr) : Prop := some p ∈ as.ix \/ p ∈ as.hd
abbrev As.add (as : As) (p : Addr) : As := { as with ix := as.ix ++ [some p] }
abbrev As.cut (as : As) (n : Nat) : As := { as with ix := as.ix.set n none }
abbrev As.hide (as : As) (p : Addr) : As := { as with hd := p :: as.hd }
abbrev As.show (as : As) (p : Addr) : As := { as with hd := as.hd.filter fun q => decide (q ≠ p) }
structure Step0 (as : As) (H : Hp) (as' : As) (H' : Hp) : Prop where
 len : as.ix.length <= as'.ix.length
 old : ∀ n : Nat, n < as.ix.length -> as'.ix[n]? = as.ix[n]? \/ as'.ix[n]? = some none
 back : ∀ p, as'.has p -> as.has p \/ H p = none
 keep : ∀ b o, ¬ as.has b -> H b = some o -> H' b = some o
 dom : ∀ b, H b ≠ none -> H' b ≠ none
structure Step (as : As) (H : Hp) (as' : As) (H' : Hp) : Prop extends Step0 as H as' H' where
 hk : ∀ p ∈ as.hd, p ∈ as'.hd
 hh : ∀ p ∈ as.hd, ∀ o, H p = some o -> H' p = some o
theorem Step.refl (as : As) (H : Hp) : Step as H as H where
 len := Nat.le_refl _
 old _ _ := .inl rfl
 back _ h := .inl h
 keep _ _ _ e := e
 dom _ e := e
 hk _ h := h
 hh _ _ _ e := e
theorem mem_as {as : As} {p : Addr} : some p ∈ as.ix ↔ ∃ n : Nat, as.ix[n]? = some (some p) := by
 rw [List.mem_iff_getElem?]
theorem Step0.out {as as' : As} {H H' : Hp} (st : Step0 as H as' H') {b : Addr} {o : HO} (n : ¬ as.has b) (e : H b = some o) : ¬ as'.has b := fun m => by
 rcases st.back b m with q | q
 ·exact n q
 ·rw [e] at q; cases q
theorem Step0.trans {as as1 as2 : As} {H H1 H2 : Hp} (a : Step0 as H as1 H1) (b : Step0 as1 H1 as2 H2) : Step0 as H as2 H2 where
 len := Nat.le_trans a.len b.len
 old n hn := by
  rcases b.old n (Nat.lt_of_lt_of_le hn a.len) with q | q
  ·rw [q]; exact a.old n hn
  ·exact .inr q
 back p h := by
  rcases b.back p h with q | q
  ·exact a.back p q
  ·right
   cases z : H p with
   | none => rfl
   | some o => exact absurd q (a.dom p (by rw [z]; simp))
 keep b' o n e := b.keep b' o (a.out n e) (a.keep b' o n e)
 dom b' e := b.dom b' (a.dom b' e)
theorem Step.trans {as as1 as2 : As} {H H1 H2 : Hp} (a : Step as H as1 H1) (b : Step as1 H1 as2 H2) : Step as H as2 H2 := ⟨a.toStep0.trans b.toStep0, fun p h => b.hk p (a.hk p h), fun p h o e => b.hh p (a.hk p h) o (a.hh p h o e)⟩
mutual
inductive TD (as : As) (H : Hp) : V -> PyData -> Prop
 | non : TD as H .non .none
 | bl (b : Bool) : TD as H (.bl b) (.bool b)
 | int (i : Int) : TD as H (.int i) (.int i)
 | str (x : Str) : TD as H (.str x) (.str x)
 | tup {p : Addr} {xs : List V} {ds : List PyData} : ¬ as.has p -> H p = some (.tup xs) -> TDs as H xs ds -> TD as H (.ref p) (.tuple ds)
 | lst {p : Addr} {xs : List V} {ds : List PyData} : ¬ as.has p -> H p = some (.lst xs) -> TDs as H xs ds -> TD as H (.ref p) (.list ds)
 | dct {p : Addr} : ¬ as.has p -> H p = some (.dK []) -> TD as H (.ref p) (.dict [])
 | dc1 {p : Addr} {i : Int} {v : V} {d : PyData} : ¬ as.has p -> H p = some (.dK [(.inl i, v)]) -> TD as H v d -> TD as H (.ref p) (.dict [(.int i, d)])
inductive TDs (as : As) (H : Hp) : List V -> List PyData -> Prop
 | nil : TDs as H [] []
 | cons {x : V} {xs : List V} {d : PyData} {ds : List PyData} : TD as H x d -> TDs as H xs ds -> TDs as H (x :: xs) (d :: ds)
end
inductive RD (K : PySem.W.Frag) (as : As) (H : Hp) : V -> D -> Prop
 | da {v : V} {d : PyData} : TD as H v d -> RD K as H v (.da d)
 | ty (n : String) : RD K as H (.ty n) (.ty n)
 | fn {f : Addr} {x : Str} : PySem.W.nsIn K mainGlobals x = some (some (.ref f)) -> RD K as H (.ref f) (.fn x)
 | tabF {d : Addr} {T : List (Str × Str)} : TabF K d T -> RD K as H (.ref d) (.tabF T)
 | con {p : Addr} {xs : List V} {ds : List PyData} : (∀ H', SqT K H' p xs) -> TDs as H xs ds -> RD K as H (.ref p) (.con ds)
 | frz {p : Addr} {xs : List V} {ds : List PyData} : (∀ as' H', Step0 as H as' H' -> SqL K H' p xs) -> TDs as H xs ds -> RD K as H (.ref p) (.frz ds)
 | ref {p : Addr} {n : Nat} : n < as.ix.length -> (∀ q, as.ix[n]? = some (some q) -> q = p) -> RD K as H (.ref p) (.ref n)
inductive RDs (K : PySem.W.Frag) (as : As) (H : Hp) : List V -> List D -> Prop
 | nil : RDs K as H [] []
 | cons {x : V} {xs : List V} {d : D} {ds : List D} : RD K as H x d -> RDs K as H xs ds -> RDs K as H (x :: xs) (d :: ds)
noncomputable def kP : Key -> PyData
 | .inl i => .int i
 | .inr x => .str x
noncomputable def isT : PyData -> Bool
 | .tuple xs => keyOk (.tuple xs)
 | _ => false
inductive DRs (K : PySem.W.Frag) (as : As) (H : Hp) : List (PyData × V) -> List (PyData × D) -> Prop
 | nil : DRs K as H [] []
 | cons {k : PyData} {v : V} {d : D} {l : List (PyData × V)} {kvs : List (PyData × D)} : RD K as H v d -> DRs K as H l kvs -> DRs K as H ((k, v) :: l) ((k, d) :: kvs)
inductive FRs (K : PySem.W.Frag) (as : As) (H : Hp) : List (Str × V) -> List (Str × D) -> Prop
 | nil : FRs K as H [] []
 | cons {f : Str} {v : V} {d : D} {l : List (Str × V)} {fs : List (Str × D)} : RD K as H v d -> FRs K as H l fs -> FRs K as H ((f, v) :: l) ((f, d) :: fs)
noncomputable def pvK (l : List (Key × V)) : List (PyData × V) := l.map fun e => (kP e.1, e.2)
noncomputable def RO (K : PySem.W.Frag) (as : As) (H : Hp) (p : Addr) : O -> Prop
 | .lst ds => ∃ xs, H p = some (.lst xs) /\ RDs K as H xs ds
 | .dct kvs => (∃ l : List (Key × V), H p = some (.dK l) /\ DRs K as H (pvK l) kvs) \/ ∃ l : List (PyData × V), (l ≠ [] /\ (l.all fun e => isT e.1) = true) /\ H p = some (.dD l) /\ DRs K as H l kvs
 | .ins C fs => ∃ (Ca dx : Addr) (gs : List (Str × V)), PySem.W.nsIn K mainGlobals C = some (some (.ref Ca)) /\ H p = some (.ins Ca dx gs) /\ FRs K as H gs fs
 | .exc C fs => ∃ (Ca : Addr) (gs : List (Str × V)), PySem.W.nsIn K mainGlobals C = some (some (.ref Ca)) /\ H p = some (.exn Ca gs) /\ FRs K as H gs fs
 | _ => False
structure Rel (K : PySem.W.Frag) (as : As) (H : Hp) (s : S) : Prop where
 len : as.ix.length = s.length
 nd : ∀ (i j : Nat) (p : Addr), as.ix[i]? = some (some p) -> as.ix[j]? = some (some p) -> i = j
 ob : ∀ (n : Nat) (p : Addr) (o : O), as.ix[n]? = some (some p) -> s[n]? = some o -> RO K as H p o
 li : ∀ (n : Nat) (o : O), s[n]? = some o -> o ≠ .gone -> ∃ p, as.ix[n]? = some (some p)
 hs : ∀ p ∈ as.hd, ∃ xs, H p = some (.lst xs)
 hx : ∀ p ∈ as.hd, some p ∉ as.ix
mutual
theorem TD.mono0 {as as' : As} {H H' : Hp} (st : Step0 as H as' H') : ∀ {v : V} {d : PyData}, TD as H v d -> TD as' H' v d
 | _, _, .non => .non
 | _, _, .bl b => .bl b
 | _, _, .int i => .int i
 | _, _, .str x => .str x
 | _, _, .tup n e r => .tup (st.out n e) (st.keep _ _ n e) (TDs.mono0 st r)
 | _, _, .lst n e r => .lst (st.out n e) (st.keep _ _ n e) (TDs.mono0 st r)
 | _, _, .dct n e => .dct (st.out n e) (st.keep _ _ n e)
 | _, _, .dc1 n e t => .dc1 (st.out n e) (st.keep _ _ n e) (TD.mono0 st t)
theorem TDs.mono0 {as as' : As} {H H' : Hp} (st : Step0 as H as' H') : ∀ {vs : List V} {ds : List PyData}, TDs as H vs ds -> TDs as' H' vs ds
 | _, _, .nil => .nil
 | _, _, .cons a r => .cons (TD.mono0 st a) (TDs.mono0 st r)
end
theorem RD.mono0 {K : PySem.W.Frag} {as as' : As} {H H' : Hp} (st : Step0 as H as' H') {v : V} {d : D} (h : RD K as H v d) : RD K as' H' v d := by
 cases h with
 | da t => exact .da (t.mono0 st)
 | ty n => exact .ty n
 | fn a => exact .fn a
 | tabF a => exact .tabF a
 | con h r => exact .con h (r.mono0 st)
 | frz h r => exact .frz (fun as' H' s2 => h as' H' (st.trans s2)) (r.mono0 st)
 | ref l h =>
  refine .ref (Nat.lt_of_lt_of_le l st.len) fun q e => ?_
  rcases st.old _ l with z | z
  ·rw [z] at e; exact h q e
  ·rw [z] at e; cases e
theorem RDs.mono0 {K : PySem.W.Frag} {as as' : As} {H H' : Hp} (st : Step0 as H as' H') : ∀ {vs : List V} {ds : List D}, RDs K as H vs ds -> RDs K as' H' vs ds
 | _, _, .nil => .nil
 | _, _, .cons a r => .cons (RD.mono0 st a) (RDs.mono0 st r)
theorem FRs.mono0 {K : PySem.W.Frag} {as as' : As} {H H' : Hp} (st : Step0 as H as' H') : ∀ {l : List (Str × V)} {fs : List (Str × D)}, FRs K as H l fs -> FRs K as' H' l fs
 | _, _, .nil => .nil
 | _, _, .cons a r => .cons (a.mono0 st) (FRs.mono0 st r)
theorem DRs.mono0 {K : PySem.W.Frag} {as as' : As} {H H' : Hp} (st : Step0 as H as' H') : ∀ {l : List (PyData × V)} {kvs : List (PyData × D)}, DRs K as H l kvs -> DRs K as' H' l kvs
 | _, _, .nil => .nil
 | _, _, .cons a r => .cons (RD.mono0 st a) (DRs.mono0 st r)
theorem DRs.mono {K : PySem.W.Frag} {as as' : As} {H H' : Hp} (st : Step as H as' H') {l : List (PyData × V)} {kvs : List (PyData × D)} (h : DRs K as H l kvs) : DRs K as' H' l kvs := h.mono0 st.toStep0
theorem TD.mono {as as' : As} {H H' : Hp} (st : Step as H as' H') {v : V} {d : PyData} (h : TD as H v d) : TD as' H' v d := h.mono0 st.toStep0
theorem TDs.mono {as as' : As} {H H' : Hp} (st : Step as H as' H') {v : List V} {d : List PyData} (h : TDs as H v d) : TDs as' H' v d := h.mono0 st.toStep0
theorem RD.mono {K : PySem.W.Frag} {as as' : As} {H H' : Hp} (st : Step as H as' H') {v : V} {d : D} (h : RD K as H v d) : RD K as' H' v d := h.mono0 st.toStep0
theorem RDs.mono {K : PySem.W.Frag} {as as' : As} {H H' : Hp} (st : Step as H as' H') {v : List V} {d : List D} (h : RDs K as H v d) : RDs K as' H' v d := h.mono0 st.toStep0
section
variable {K : PySem.W.Frag} {as : As} {H : Hp}
theorem RDs.length : ∀ {vs : List V} {ds : List D}, RDs K as H vs ds -> vs.length = ds.length
 | _, _, .nil => rfl
 | _, _, .cons _ r => congrArg (· + 1) (RDs.length r)
theorem RDs.append : ∀ {vs ws : List V} {ds es : List D}, RDs K as H vs ds -> RDs K as H ws es -> RDs K as H (vs ++ ws) (ds ++ es)
 | _, _, _, _, .nil, s => s
 | _, _, _, _, .cons a r, s => .cons a (RDs.append r s)
theorem RDs.get : ∀ {vs : List V} {ds : List D} {i : Nat} {d : D}, RDs K as H vs ds -> ds[i]? = some d -> ∃ v, vs[i]? = some v /\ RD K as H v d
 | _, _, _, _, .nil, e => by simp at e
 | _, _, 0, _, .cons a _, e => by simp at e; subst e; exact ⟨_, rfl, a⟩
 | _, _, i + 1, d, .cons _ r, e => by
  obtain ⟨v, h1, h2⟩ := RDs.get (i := i) (d := d) r (by simpa using e)
  exact ⟨v, by simpa using h1, h2⟩
theorem RDs.set : ∀ {vs : List V} {ds : List D} (i : Nat) {v : V} {d : D}, RD K as H v d -> RDs K as H vs ds -> RDs K as H (vs.set i v) (ds.set i d)
 | _, _, _, _, _, _, .nil => .nil
 | _, _, 0, _, _, r, .cons _ t => .cons r t
 | _, _, i + 1, _, _, r, .cons q t => .cons q (RDs.set i r t)
theorem RDs.take : ∀ {vs : List V} {ds : List D} (n : Nat), RDs K as H vs ds -> RDs K as H (vs.take n) (ds.take n)
 | _, _, 0, _ => .nil
 | _, _, _ + 1, .nil => .nil
 | _, _, n + 1, .cons r t => .cons r (RDs.take n t)
theorem RDs.drop : ∀ {vs : List V} {ds : List D} (n : Nat), RDs K as H vs ds -> RDs K as H (vs.drop n) (ds.drop n)
 | _, _, 0, r => r
 | _, _, _ + 1, .nil => .nil
 | _, _, n + 1, .cons _ t => RDs.drop n t
end
section
variable {as : As} {H : Hp}
theorem TDs.length : ∀ {vs : List V} {ds : List PyData}, TDs as H vs ds -> vs.length = ds.length
 | _, _, .nil => rfl
 | _, _, .cons _ r => congrArg (· + 1) (TDs.length r)
theorem TDs.append : ∀ {vs ws : List V} {ds es : List PyData}, TDs as H vs ds -> TDs as H ws es -> TDs as H (vs ++ ws) (ds ++ es)
 | _, _, _, _, .nil, s => s
 | _, _, _, _, .cons a r, s => .cons a (TDs.append r s)
theorem TDs.take : ∀ {vs : List V} {ds : List PyData} (n : Nat), TDs as H vs ds -> TDs as H (vs.take n) (ds.take n)
 | _, _, 0, _ => .nil
 | _, _, _ + 1, .nil => .nil
 | _, _, n + 1, .cons r t => .cons r (TDs.take n t)
theorem TDs.drop : ∀ {vs : List V} {ds : List PyData} (n : Nat), TDs as H vs ds -> TDs as H (vs.drop n) (ds.drop n)
 | _, _, 0, r => r
 | _, _, _ + 1, .nil => .nil
 | _, _, n + 1, .cons _ t => TDs.drop n t
end
theorem TDs.rd {K : PySem.W.Frag} {as : As} {H : Hp} : ∀ {vs : List V} {ds : List PyData}, TDs as H vs ds -> RDs K as H vs (ds.map D.da)
 | _, _, .nil => .nil
 | _, _, .cons a r => .cons (.da a) (TDs.rd r)
noncomputable def pures : List D -> Option (List PyData)
 | [] => some []
 | .da d :: r => match pures r with
  | some ds => some (d :: ds)
  | none => none
 | _ => none
theorem pures_da : ∀ ds : List PyData, pures (ds.map D.da) = some ds
 | [] => rfl
 | d :: r => by rw [List.map_cons, pures, pures_da r]
theorem pures_eq : ∀ {ds : List D} {xs : List PyData}, pures ds = some xs -> ds = xs.map D.da
 | [], xs, h => by cases h; rfl
 | .da d :: r, xs, h => by
  rw [pures] at h
  cases q : pures r with
  | none => rw [q] at h; cases h
  | some ys => rw [q] at h; cases h; rw [pures_eq q]; rfl
 | .con _ :: _, _, h => by cases h
 | .frz _ :: _, _, h => by cases h
 | .set _ :: _, _, h => by cases h
 | .ref _ :: _, _, h => by cases h
 | .fn _ :: _, _, h => by cases h
 | .tabF _ :: _, _, h => by cases h
 | .ty _ :: _, _, h => by cases h
theorem RDs.td {K : PySem.W.Frag} {as : As} {H : Hp} : ∀ {vs : List V} {ds : List PyData}, RDs K as H vs (ds.map D.da) -> TDs as H vs ds
 | _, [], h => by cases h; exact .nil
 | _, d :: r, h => by
  cases h with
  | cons a b => cases a with | da a => exact .cons a (RDs.td b)
theorem dom_new {H H' : Hp} {p b : Addr} {o : HO} (n : New H p o H') (e : H b ≠ none) : H' b ≠ none := by
 cases q : H b with
 | none => exact absurd q e
 | some u => rw [n.keep q]; simp
theorem step_new {as : As} {H H' : Hp} {p : Addr} {o : HO} (n : New H p o H') : Step as H as H' where
 len := Nat.le_refl _
 old _ _ := .inl rfl
 back _ h := .inl h
 keep _ _ _ e := n.keep e
 dom _ e := dom_new n e
 hk _ h := h
 hh _ _ _ e := n.keep e
theorem get_snoc {α : Type} {l : List α} {x y : α} {i : Nat} (e : (l ++ [x])[i]? = some y) : (i < l.length /\ l[i]? = some y) \/ (i = l.length /\ y = x) := by
 by_cases h : i < l.length
 ·rw [List.getElem?_append_left h] at e; exact .inl ⟨h, e⟩
 ·have h2 : i - l.length = 0 \/ 1 <= i - l.length := by omega
  rw [List.getElem?_append_right (Nat.le_of_not_lt h)] at e
  rcases h2 with z | z
  ·rw [z] at e
   simp at e
   exact .inr ⟨by omega, e.symm⟩
  ·rw [List.getElem?_eq_none_iff.mpr (by simpa using z)] at e
   cases e
theorem has_add {as : As} {p q : Addr} (h : (as.add p).has q) : as.has q \/ q = p := by
 rcases h with h | h
 ·rcases List.mem_append.mp h with z | z
  ·exact .inl (.inl z)
  ·exact .inr (by simpa using z)
 ·exact .inl (.inr h)
theorem step_laid {as : As} {H H' : Hp} {p : Addr} {o : HO} (n : New H p o H') : Step as H (as.add p) H' where
 len := by simp
 old i h := .inl (List.getElem?_append_left h)
 back q h := by
  rcases has_add h with z | z
  ·exact .inl z
  ·subst z; exact .inr n.no
 keep _ _ _ e := n.keep e
 dom _ e := dom_new n e
 hk _ h := h
 hh _ _ _ e := n.keep e
theorem step0_chg {as : As} {H H' : Hp} {p : Addr} {o : HO} (m : as.has p) (c : Chg H p o H') : Step0 as H as H' where
 len := Nat.le_refl _
 old _ _ := .inl rfl
 back _ h := .inl h
 keep b u n e := c.keep (fun z => n (z ▸ m)) e
 dom b e := by
  by_cases z : b = p
  ·subst z; rw [c.at]; simp
  ·cases q : H b with
   | none => exact absurd q e
   | some u => rw [c.keep z q]; simp
theorem step_chg {as : As} {H H' : Hp} {p : Addr} {o : HO} (m : some p ∈ as.ix) (nh : p ∉ as.hd) (c : Chg H p o H') : Step as H as H' := ⟨step0_chg (.inl m) c, fun _ h => h, fun q h u e => c.keep (fun z => nh (z ▸ h)) e⟩
theorem step_own {as as2 : As} {H H1 H2 : Hp} {p : Addr} {o : HO} (st : Step as H as2 H1) (no : H p = none) (nh : p ∉ as.hd) (m : p ∈ as2.hd) (c : Chg H1 p o H2) : Step as H as2 H2 :=
 ⟨⟨st.len, st.old, st.back, fun b u n e => c.keep (ne_of_none e no) (st.keep b u n e), fun b e => (step0_chg (.inr m) c).dom b (st.dom b e)⟩, st.hk, fun q h u e => c.keep (fun z => nh (z ▸ h)) (st.hh q h u e)⟩
theorem cut_ix {as : As} {n i : Nat} {q : Addr} (e : (as.cut n).ix[i]? = some (some q)) : as.ix[i]? = some (some q) := by
 by_cases z : n = i
 ·subst z
  rw [List.getElem?_set] at e
  simp at e
 ·rw [List.getElem?_set_ne z] at e; exact e
theorem step_frz {as : As} {H : Hp} (n : Nat) : Step as H (as.cut n) H where
 len := by simp
 old i h := by
  by_cases z : n = i
  ·subst z; right; simp [h]
  ·left; rw [List.getElem?_set_ne z]
 back p h := by
  rcases h with h | h
  ·obtain ⟨i, hi⟩ := mem_as.mp h
   exact .inl (.inl (mem_as.mpr ⟨i, cut_ix hi⟩))
  ·exact .inl (.inr h)
 keep _ _ _ e := e
 dom _ e := e
 hk _ h := h
 hh _ _ _ e := e
theorem step_hide {as : As} {H H' : Hp} {p : Addr} {o : HO} (n : New H p o H') : Step as H (as.hide p) H' where
 len := Nat.le_refl _
 old _ _ := .inl rfl
 back q h := by
  rcases h with h | h
  ·exact .inl (.inl h)
  ·rcases List.mem_cons.mp h with z | z
   ·subst z; exact .inr n.no
   ·exact .inl (.inr z)
 keep _ _ _ e := n.keep e
 dom _ e := dom_new n e
 hk _ h := List.mem_cons_of_mem _ h
 hh _ _ _ e := n.keep e
theorem has_show {as : As} {p q : Addr} (h : (as.show p).has q) : as.has q := by
 rcases h with h | h
 ·exact .inl h
 ·exact .inr (List.mem_filter.mp h).1
theorem step_show {as : As} {H : Hp} {p : Addr} : Step0 as H (as.show p) H where
 len := Nat.le_refl _
 old _ _ := .inl rfl
 back q h := .inl (has_show h)
 keep _ _ _ e := e
 dom _ e := e
theorem step_take {as : As} {H : Hp} {p : Addr} (m : p ∈ as.hd) : Step0 as H ((as.show p).add p) H where
 len := by simp
 old i h := .inl (List.getElem?_append_left h)
 back q h := by
  rcases has_add h with z | z
  ·exact .inl (has_show z)
  ·subst z; exact .inl (.inr m)
 keep _ _ _ e := e
 dom _ e := e
theorem step_end {as as2 : As} {H H2 : Hp} {p : Addr} (st : Step as H as2 H2) (nh : p ∉ as.hd) (st2 : Step0 as2 H2 (as2.show p) H2) : Step as H (as2.show p) H2 :=
 ⟨st.toStep0.trans st2, fun q h => List.mem_filter.mpr ⟨st.hk q h, by
  have : q ≠ p := fun z => nh (z ▸ h)
  simp [this]⟩, st.hh⟩
theorem step_end2 {as as2 : As} {H H2 : Hp} {p : Addr} (st : Step as H as2 H2) (nh : p ∉ as.hd) (m : p ∈ as2.hd) : Step as H ((as2.show p).add p) H2 :=
 ⟨st.toStep0.trans (step_take m), fun q h => List.mem_filter.mpr ⟨st.hk q h, by
  have : q ≠ p := fun z => nh (z ▸ h)
  simp [this]⟩, st.hh⟩
section
variable {K : PySem.W.Frag} {as as' : As} {H H' : Hp} {s : S} {p : Addr}
theorem RO.mono0 (st : Step0 as H as' H') {o : O} (e : H' p = H p) (h : RO K as H p o) : RO K as' H' p o := by
 cases o with
 | lst ds =>
  obtain ⟨xs, e1, r⟩ := h
  exact ⟨xs, e.trans e1, r.mono0 st⟩
 | dct kvs =>
  rcases h with ⟨l, e1, r⟩ | ⟨l, e0, e1, r⟩
  ·exact .inl ⟨l, e.trans e1, r.mono0 st⟩
  ·exact .inr ⟨l, e0, e.trans e1, r.mono0 st⟩
 | ins C fs =>
  obtain ⟨Ca, dx, gs, e0, e1, r⟩ := h
  exact ⟨Ca, dx, gs, e0, e.trans e1, r.mono0 st⟩
 | exc C fs =>
  obtain ⟨Ca, gs, e0, e1, r⟩ := h
  exact ⟨Ca, gs, e0, e.trans e1, r.mono0 st⟩
 | _ => exact h.elim
theorem RO.some {o : O} (h : RO K as H p o) : H p ≠ none := by
 cases o with
 | lst ds =>
  obtain ⟨xs, e1, r⟩ := h
  rw [e1]; simp
 | dct kvs =>
  rcases h with ⟨l, e1, r⟩ | ⟨l, e0, e1, r⟩ <;> (rw [e1]; simp)
 | ins C fs =>
  obtain ⟨Ca, dx, gs, e0, e1, r⟩ := h
  rw [e1]; simp
 | exc C fs =>
  obtain ⟨Ca, gs, e0, e1, r⟩ := h
  rw [e1]; simp
 | _ => exact h.elim
theorem Rel.at (r : Rel K as H s) {n : Nat} (e : as.ix[n]? = some (some p)) : H p ≠ none := by
 have hl : n < s.length := by
  rw [← r.len]
  exact (List.getElem?_eq_some_iff.mp e).1
 exact (r.ob n p _ e (List.getElem?_eq_getElem hl)).some
theorem Rel.has (r : Rel K as H s) (h : as.has p) : H p ≠ none := by
 rcases h with h | h
 ·obtain ⟨i, hi⟩ := mem_as.mp h
  exact r.at hi
 ·obtain ⟨xs, e⟩ := r.hs p h
  rw [e]; simp
theorem same_of {H H' : Hp} {q : Addr} (k : ∀ o, H q = some o -> H' q = some o) (h : H q ≠ none) : H' q = H q := by
 cases z : H q with
 | none => exact absurd z h
 | some x => rw [k x z]
theorem Rel.new {o : HO} (r : Rel K as H s) (n : New H p o H') : Rel K as H' s where
 len := r.len
 nd := r.nd
 ob i q u e1 e2 := (r.ob i q u e1 e2).mono0 (step_new n).toStep0 (same_of (fun _ => n.keep) (r.at e1))
 li := r.li
 hs q h := let ⟨xs, e⟩ := r.hs q h; ⟨xs, n.keep e⟩
 hx := r.hx
theorem Rel.laid {o : HO} {u : O} (r : Rel K as H s) (n : New H p o H') (h : RO K (as.add p) H' p u) : Rel K (as.add p) H' (s ++ [u]) where
 len := by simp [r.len]
 nd i j q e1 e2 := by
  rcases get_snoc e1 with ⟨l1, z1⟩ | ⟨l1, z1⟩ <;> rcases get_snoc e2 with ⟨l2, z2⟩ | ⟨l2, z2⟩
  ·exact r.nd i j q z1 z2
  ·cases z2; exact absurd n.no (r.at z1)
  ·cases z1; exact absurd n.no (r.at z2)
  ·rw [l1, l2]
 ob i q x e1 e2 := by
  rcases get_snoc e1 with ⟨l1, z1⟩ | ⟨l1, z1⟩ <;> rcases get_snoc e2 with ⟨l2, z2⟩ | ⟨l2, z2⟩
  ·exact (r.ob i q x z1 z2).mono0 (step_laid n).toStep0 (same_of (fun _ => n.keep) (r.at z1))
  ·rw [l2, ← r.len] at l1; exact absurd l1 (Nat.lt_irrefl _)
  ·rw [l1, r.len] at l2; exact absurd l2 (Nat.lt_irrefl _)
  ·cases z1; subst z2; exact h
 li i x e g := by
  rcases get_snoc e with ⟨l1, z1⟩ | ⟨l1, z1⟩
  ·obtain ⟨q, hq⟩ := r.li i x z1 g
   exact ⟨q, by rw [List.getElem?_append_left (by rw [r.len]; exact l1)]; exact hq⟩
  ·exact ⟨p, by rw [l1, ← r.len]; simp⟩
 hs q h := let ⟨xs, e⟩ := r.hs q h; ⟨xs, n.keep e⟩
 hx q h m := by
  rcases List.mem_append.mp m with z | z
  ·exact r.hx q h z
  ·have : q = p := by simpa using z
   subst this
   obtain ⟨xs, e⟩ := r.hs q h
   rw [n.no] at e; cases e
theorem Rel.chg {o : HO} {u : O} {n : Nat} (r : Rel K as H s) (e : as.ix[n]? = some (some p)) (c : Chg H p o H') (h : RO K as H' p u) : Rel K as H' (s.set n u) where
 len := by simp [r.len]
 nd := r.nd
 ob i q x e1 e2 := by
  by_cases z : n = i
  ·subst z
   rw [e] at e1; cases e1
   have hl : n < s.length := by rw [← r.len]; exact (List.getElem?_eq_some_iff.mp e).1
   rw [List.getElem?_set_self hl] at e2
   cases e2; exact h
  ·rw [List.getElem?_set_ne z] at e2
   have ne : q ≠ p := fun w => z (r.nd n i p e (w ▸ e1))
   exact (r.ob i q x e1 e2).mono0 (step0_chg (.inl (mem_as.mpr ⟨n, e⟩)) c) (same_of (fun _ => c.keep ne) (r.at e1))
 li i x e2 g := by
  by_cases z : n = i
  ·subst z; exact ⟨p, e⟩
  ·rw [List.getElem?_set_ne z] at e2
   exact r.li i x e2 g
 hs q h := let ⟨xs, e'⟩ := r.hs q h; ⟨xs, c.keep (fun z => r.hx q h (mem_as.mpr ⟨n, z ▸ e⟩)) e'⟩
 hx := r.hx
theorem Rel.chgH {ys : List V} (r : Rel K as H s) (m : p ∈ as.hd) (c : Chg H p (.lst ys) H') : Rel K as H' s where
 len := r.len
 nd := r.nd
 ob i q x e1 e2 := by
  have ne : q ≠ p := fun w => r.hx p m (mem_as.mpr ⟨i, w ▸ e1⟩)
  exact (r.ob i q x e1 e2).mono0 (step0_chg (.inr m) c) (same_of (fun _ => c.keep ne) (r.at e1))
 li := r.li
 hs q h := by
  by_cases z : q = p
  ·subst z; exact ⟨ys, c.at⟩
  ·obtain ⟨xs, e⟩ := r.hs q h
   exact ⟨xs, c.keep z e⟩
 hx := r.hx
theorem Rel.hide {ys : List V} (r : Rel K as H s) (n : New H p (.lst ys) H') : Rel K (as.hide p) H' s where
 len := r.len
 nd := r.nd
 ob i q u e1 e2 := (r.ob i q u e1 e2).mono0 (step_hide n).toStep0 (same_of (fun _ => n.keep) (r.at e1))
 li := r.li
 hs q h := by
  rcases List.mem_cons.mp h with z | z
  ·subst z; exact ⟨ys, n.at⟩
  ·obtain ⟨xs, e⟩ := r.hs q z
   exact ⟨xs, n.keep e⟩
 hx q h m := by
  rcases List.mem_cons.mp h with z | z
  ·subst z
   obtain ⟨i, hi⟩ := mem_as.mp m
   exact r.at hi n.no
  ·exact r.hx q z m
theorem Rel.show (r : Rel K as H s) : Rel K (as.show p) H s where
 len := r.len
 nd := r.nd
 ob i q u e1 e2 := (r.ob i q u e1 e2).mono0 step_show rfl
 li := r.li
 hs q h := r.hs q (List.mem_filter.mp h).1
 hx q h := r.hx q (List.mem_filter.mp h).1
theorem Rel.take {u : O} (r : Rel K as H s) (m : p ∈ as.hd) (h : RO K ((as.show p).add p) H p u) : Rel K ((as.show p).add p) H (s ++ [u]) where
 len := by simp [r.len]
 nd i j q e1 e2 := by
  rcases get_snoc e1 with ⟨l1, z1⟩ | ⟨l1, z1⟩ <;> rcases get_snoc e2 with ⟨l2, z2⟩ | ⟨l2, z2⟩
  ·exact r.nd i j q z1 z2
  ·cases z2; exact absurd (mem_as.mpr ⟨i, z1⟩) (r.hx p m)
  ·cases z1; exact absurd (mem_as.mpr ⟨j, z2⟩) (r.hx p m)
  ·rw [l1, l2]
 ob i q x e1 e2 := by
  rcases get_snoc e1 with ⟨l1, z1⟩ | ⟨l1, z1⟩ <;> rcases get_snoc e2 with ⟨l2, z2⟩ | ⟨l2, z2⟩
  ·exact (r.ob i q x z1 z2).mono0 (step_take m) rfl
  ·rw [l2, ← r.len] at l1; exact absurd l1 (Nat.lt_irrefl _)
  ·rw [l1] at l2
   have : as.ix.length < s.length := l2
   rw [r.len] at this; exact absurd this (Nat.lt_irrefl _)
  ·cases z1; subst z2; exact h
 li i x e g := by
  rcases get_snoc e with ⟨l1, z1⟩ | ⟨l1, z1⟩
  ·obtain ⟨q, hq⟩ := r.li i x z1 g
   exact ⟨q, by rw [List.getElem?_append_left (by rw [r.len]; exact l1)]; exact hq⟩
  ·exact ⟨p, by rw [l1, ← r.len]; simp⟩
 hs q h := r.hs q (List.mem_filter.mp h).1
 hx q h m2 := by
  obtain ⟨h1, h2⟩ := List.mem_filter.mp h
  rcases List.mem_append.mp m2 with z | z
  ·exact r.hx q h1 z
  ·have : q = p := by simpa using z
   exact absurd this (of_decide_eq_true h2)
theorem Rel.frz {n : Nat} (r : Rel K as H s) : Rel K (as.cut n) H (s.set n .gone) where
 len := by simp [r.len]
 nd i j q e1 e2 := by
  exact r.nd i j q (cut_ix e1) (cut_ix e2)
 ob i q x e1 e2 := by
  by_cases z : n = i
  ·subst z
   rw [List.getElem?_set] at e1
   simp at e1
  ·rw [List.getElem?_set_ne z] at e1 e2
   exact (r.ob i q x e1 e2).mono0 (step_frz n).toStep0 rfl
 li i x e2 g := by
  by_cases z : n = i
  ·subst z
   rw [List.getElem?_set] at e2
   simp at e2
   exact absurd e2.2.symm g
  ·rw [List.getElem?_set_ne z] at e2 ⊢
   exact r.li i x e2 g
 hs := r.hs
 hx q h m := by
  obtain ⟨i, hi⟩ := mem_as.mp m
  by_cases z : n = i
  ·subst z
   rw [List.getElem?_set] at hi
   simp at hi
  ·rw [List.getElem?_set_ne z] at hi
   exact r.hx q h (mem_as.mpr ⟨i, hi⟩)
end
end PF
namespace PF
open PySem PySem.Spec
open L2
abbrev En := List (Option D)
structure Envs (K : PySem.W.Frag) (as : As) (H : Hp) (ρ : En) (σ : St) : Prop where
 len : ρ.length = σ.length
 get : ∀ (i : Nat) (d : D), ρ[i]? = some (some d) -> ∃ v, σ[i]? = some (some v) /\ RD K as H v d
theorem Envs.mono {K : PySem.W.Frag} {as as' : As} {H H' : Hp} {ρ : En} {σ : St} (e : Envs K as H ρ σ) (st : Step as H as' H') : Envs K as' H' ρ σ := ⟨e.len, fun i d h => let ⟨v, a, b⟩ := e.get i d h; ⟨v, a, b.mono st⟩⟩
theorem Envs.set {K : PySem.W.Frag} {as : As} {H : Hp} {ρ : En} {σ : St} (e : Envs K as H ρ σ) (i : Nat) {v : V} {d : D} (r : RD K as H v d) : Envs K as H (ρ.set i (some d)) (σ.set i (some v)) := by
 refine ⟨by simp [e.len], fun j x h => ?_⟩
 by_cases z : i = j
 ·subst z
  rw [List.getElem?_set] at h ⊢
  by_cases hl : i < ρ.length
  ·simp [hl] at h
   subst h
   exact ⟨v, by simp [← e.len, hl], r⟩
  ·simp [hl] at h
 ·rw [List.getElem?_set_ne z] at h ⊢
  exact e.get j x h
noncomputable def Dn {α β : Type} (K : PySem.W.Frag) (rel : As -> Hp -> β -> α -> Prop) (as : As) (H : Hp) (r : R α) (Q : β -> Hp -> Prop) : Prop := match r with
 | .ok a s => ∀ b as' H', Step as H as' H' -> Rel K as' H' s -> rel as' H' b a -> Q b H'
 | .bad => False
theorem Dn.step {α β : Type} {K : PySem.W.Frag} {rel : As -> Hp -> β -> α -> Prop} {as as1 : As} {H H1 : Hp} {r : R α} {Q : β -> Hp -> Prop} (h : Dn K rel as H r Q) (st : Step as H as1 H1) : Dn K rel as1 H1 r Q := by
 cases r with
 | ok a s => exact fun b as' H' s2 rl rb => h b as' H' (st.trans s2) rl rb
 | bad => exact h
theorem Dn.bind {α β γ δ : Type} {K : PySem.W.Frag} {r1 : As -> Hp -> β -> α -> Prop} {r2 : As -> Hp -> δ -> γ -> Prop} {as : As} {H : Hp} {r : R α} {f : α -> S -> R γ} {Q : δ -> Hp -> Prop} {Q' : β -> Hp -> Prop} (h : Dn K r2 as H (r.bind f) Q)
  (k : ∀ a s as1 H1 b, Step as H as1 H1 -> Rel K as1 H1 s -> r1 as1 H1 b a -> Dn K r2 as1 H1 (f a s) Q -> Q' b H1) : Dn K r1 as H r Q' := by
 cases r with
 | ok a s => exact fun b as' H' st rl rb => k a s as' H' b st rl rb (Dn.step (r := f a s) h st)
 | bad => exact h
theorem Dn.now {α β : Type} {K : PySem.W.Frag} {rel : As -> Hp -> β -> α -> Prop} {as : As} {H : Hp} {a : α} {s : S} {Q : β -> Hp -> Prop} {b : β} (h : Dn K rel as H (.ok a s) Q) (rl : Rel K as H s) (rb : rel as H b a) : Q b H := h b as H (Step.refl _ _) rl rb
abbrev rD (K : PySem.W.Frag) : As -> Hp -> V -> D -> Prop := fun as H v d => RD K as H v d
abbrev rB : As -> Hp -> Bool -> Bool -> Prop := fun _ _ b a => b = a
abbrev rL (K : PySem.W.Frag) : As -> Hp -> List V -> List D -> Prop := fun as H v d => RDs K as H v d
inductive Fl where
 | nx (ρ : En) | rt (d : D) | bk (ρ : En) | ct (ρ : En)
inductive FV where
 | nx (σ : St) | rt (v : V) | bk (σ : St) | ct (σ : St)
inductive rF (K : PySem.W.Frag) (as : As) (H : Hp) : FV -> Fl -> Prop
 | nx {σ : St} {ρ : En} : Envs K as H ρ σ -> rF K as H (.nx σ) (.nx ρ)
 | rt {v : V} {d : D} : RD K as H v d -> rF K as H (.rt v) (.rt d)
 | bk {σ : St} {ρ : En} : Envs K as H ρ σ -> rF K as H (.bk σ) (.bk ρ)
 | ct {σ : St} {ρ : En} : Envs K as H ρ σ -> rF K as H (.ct σ) (.ct ρ)
noncomputable def endF (D : Ends) (f : FV) (H : Hp) : Prop := match f with
 | .nx σ => D.nx σ H
 | .rt v => D.rt v H
 | .bk σ => D.bk σ H
 | .ct σ => D.ct σ H
abbrev FE := En -> S -> R D
abbrev FT := En -> S -> R Bool
abbrev FA := En -> S -> R (List D)
abbrev FS := En -> S -> R Fl
noncomputable def RefE (K : PySem.W.Frag) (t : TE) (f : FE) : Prop := ∀ as σ H ρ s Q, Rel K as H s -> Envs K as H ρ σ -> Dn K (rD K) as H (f ρ s) Q -> t σ H Q
noncomputable def RefT (K : PySem.W.Frag) (t : TT) (f : FT) : Prop := ∀ as σ H ρ s Q, Rel K as H s -> Envs K as H ρ σ -> Dn K rB as H (f ρ s) Q -> t σ H Q
noncomputable def RefA (K : PySem.W.Frag) (t : TA) (f : FA) : Prop := ∀ as σ H ρ s Q, Rel K as H s -> Envs K as H ρ σ -> Dn K (rL K) as H (f ρ s) Q -> t σ H Q
noncomputable def RefS (K : PySem.W.Frag) (t : TS) (f : FS) : Prop := ∀ as σ H ρ s D, Rel K as H s -> Envs K as H ρ σ -> Dn K (rF K) as H (f ρ s) (endF D) -> t D σ H
structure RE (X : Cx) (e : Expr) (f : FE) : Prop where
 ex : ∃ t, PE X e t /\ RefE X.K t f
structure RT (X : Cx) (e : Expr) (f : FT) : Prop where
 ex : ∃ t, PT X e t /\ RefT X.K t f
structure RW (X : Cx) (e : Expr) (f : FT) : Prop where
 ex : ∃ t, PW X e t /\ RefT X.K t f
structure RA (X : Cx) (es : List Expr) (f : FA) : Prop where
 ex : ∃ t, PA X es t /\ RefA X.K t f
structure RS (X : Cx) (st : Stmt) (f : FS) : Prop where
 ex : ∃ t, PS X st t /\ RefS X.K t f
structure RSs (X : Cx) (st : List Stmt) (f : FS) : Prop where
 ex : ∃ t, PSs X st t /\ RefS X.K t f
section
variable {X : Cx} {a b : Expr} {fa fb : FE} {pos : Pos}
noncomputable def fVar (i : Nat) : FE := fun ρ s => match ρ[i]? with
 | some (some d) => .ok d s
 | _ => .bad
noncomputable def fC (d : D) : FE := fun _ s => .ok d s
theorem ref_var {K : PySem.W.Frag} (i : Nat) : RefE K (tVar i) (fVar i) := by
 intro as σ H ρ s Q rl en h
 unfold fVar at h
 cases q : ρ[i]? with
 | none => rw [q] at h; exact h.elim
 | some o =>
  cases o with
  | none => rw [q] at h; exact h.elim
  | some d =>
   rw [q] at h
   obtain ⟨v, e, r⟩ := en.get i d q
   exact ⟨v, e, Dn.now h rl r⟩
theorem re_var (i : Nat) {x : Str} {pos : Pos} (hN : X.N[i]? = some x := by rfl) (hv : Vis X.env.scope x := by first | exact Or.inl rfl | exact Or.inr (Or.inl rfl) | exact Or.inr (Or.inr rfl)) (hd : (x == ("__debug__" : Str)) = false := by decide)
  (hcd : (x == ("__classdict__" : Str)) = false := by decide) : RE X (.Name x pos) (fVar i) := ⟨_, pe_var hN hv hd hcd, ref_var i⟩
theorem ref_c {K : PySem.W.Frag} {v : V} {d : D} (r : ∀ as H, RD K as H v d) : RefE K (tC v) (fC d) := fun as σ H ρ s Q rl en h => Dn.now (K := K) (rel := rD K) h rl (r as H)
theorem re_int {i j pos} : RE X (.Constant (.int i) j pos) (fC (.int i)) := ⟨_, pe_int, ref_c fun _ _ => .da (.int i)⟩
theorem re_str {x j pos} : RE X (.Constant (.str x) j pos) (fC (.str x)) := ⟨_, pe_str, ref_c fun _ _ => .da (.str x)⟩
theorem re_bl {b j pos} : RE X (.Constant (.bool b) j pos) (fC (.bl b)) := ⟨_, pe_bl, ref_c fun _ _ => .da (.bl b)⟩
theorem re_non {j pos} : RE X (.Constant .none j pos) (fC .non) := ⟨_, pe_non, ref_c fun _ _ => .da .non⟩
theorem re_glob {x : Str} {v : V} {u : Value} {d : D} {pos : Pos} (r : ∀ as H, RD X.K as H v d) (hm : X.mg x = some u) (rv : RelV v u) (hg : Gl X x := by rfl) (hd : (x == ("__debug__" : Str)) = false := by decide) : RE X (.Name x pos) (fC d) := ⟨_, pe_glob hg hm rv hd, ref_c r⟩
theorem re_bltn {x : Str} {n : String} {pos : Pos} (hm : X.mg x = none) (hv : bootBuiltins x = some (.type n)) (hg : Gl X x := by rfl) (hn : x ≠ "__name__" := by decide) (hd : (x == ("__debug__" : Str)) = false := by decide) : RE X (.Name x pos) (fC (.ty n)) :=
 ⟨_, pe_bltn (v := .ty n) hg hm hv rfl hn hd, ref_c fun _ _ => .ty n⟩
noncomputable def fOp (g : D -> D -> S -> R D) (fa fb : FE) : FE := fun ρ s => (fa ρ s).bind fun x s1 => (fb ρ s1).bind fun y s2 => g x y s2
noncomputable def Ref2 (K : PySem.W.Frag) (r : R2) (g : D -> D -> S -> R D) : Prop := ∀ as H s x y dx dy Q, Rel K as H s -> RD K as H x dx -> RD K as H y dy -> Dn K (rD K) as H (g dx dy s) Q -> r x y H Q
theorem ref_op {K : PySem.W.Frag} {r : R2} {g : D -> D -> S -> R D} {ta tb : TE} (hr : Ref2 K r g) (ha : RefE K ta fa) (hb : RefE K tb fb) : RefE K (tOp r ta tb) (fOp g fa fb) := by
 intro as σ H ρ s Q rl en h
 refine ha as σ H ρ s _ rl en (Dn.bind h fun d1 s1 as1 H1 x st1 rl1 r1 h1 => ?_)
 refine hb as1 σ H1 ρ s1 _ rl1 (en.mono st1) (Dn.bind h1 fun d2 s2 as2 H2 y st2 rl2 r2 h2 => ?_)
 exact hr as2 H2 s2 x y d1 d2 Q rl2 (r1.mono st2) r2 h2
structure Op2 (X : Cx) (f : Value -> Value -> Sem Value) (g : D -> D -> S -> R D) : Prop where
 ex : ∃ r, OpR X f r /\ Ref2 X.K r g
theorem re_op {op : Operator} {g : D -> D -> S -> R D} (o : Op2 X (binaryOp op) g) (ha : RE X a fa) (hb : RE X b fb) : RE X (.BinOp a op b pos) (fOp g fa fb) := by
 obtain ⟨r, ho, hr⟩ := o.ex
 obtain ⟨ta, pa, ra⟩ := ha.ex
 obtain ⟨tb, pb, rb⟩ := hb.ex
 exact ⟨_, pe_op ho pa pb, ref_op hr ra rb⟩
theorem re_cmp {op : CmpOp} {g : D -> D -> S -> R D} (o : Op2 X (compareOp op) g) (ha : RE X a fa) (hb : RE X b fb) (hm : behindInMarks op b = false := by first | exact nomark _ | with_unfolding_all rfl) : RE X (.Compare a [op] [b] pos) (fOp g fa fb) := by
 obtain ⟨r, ho, hr⟩ := o.ex
 obtain ⟨ta, pa, ra⟩ := ha.ex
 obtain ⟨tb, pb, rb⟩ := hb.ex
 exact ⟨_, pe_cmpR ho pa pb hm, ref_op hr ra rb⟩
noncomputable def fTest (f : FE) : FT := fun ρ s => (f ρ s).bind fun d s1 => match d with
 | .bl k => .ok k s1
 | _ => .bad
theorem ref_test {K : PySem.W.Frag} {t : TE} {f : FE} (h : RefE K t f) : RefT K (tTest t) (fTest f) := by
 intro as σ H ρ s Q rl en q
 refine h as σ H ρ s _ rl en (Dn.bind q fun d1 s1 as1 H1 x st1 rl1 r1 h1 => ?_)
 cases r1 with
 | da t =>
  cases t with
  | bl k => exact ⟨k, rfl, Dn.now h1 rl1 rfl⟩
  | _ => exact h1.elim
 | _ => exact h1.elim
theorem rt_cmp {op : CmpOp} {g : D -> D -> S -> R D} (o : Op2 X (compareOp op) g) (ha : RE X a fa) (hb : RE X b fb) (hm : behindInMarks op b = false := by first | exact nomark _ | with_unfolding_all rfl) : RT X (.Compare a [op] [b] pos) (fTest (fOp g fa fb)) := by
 obtain ⟨r, ho, hr⟩ := o.ex
 obtain ⟨ta, pa, ra⟩ := ha.ex
 obtain ⟨tb, pb, rb⟩ := hb.ex
 exact ⟨_, pt_cmpR ho pa pb hm, ref_test (ref_op hr ra rb)⟩
noncomputable def fAndT (f g : FT) : FT := fun ρ s => (f ρ s).bind fun c s1 => if c = true then g ρ s1 else .ok false s1
noncomputable def fOrT (f g : FT) : FT := fun ρ s => (f ρ s).bind fun c s1 => if c = true then .ok true s1 else g ρ s1
noncomputable def fNotT (f : FT) : FT := fun ρ s => (f ρ s).bind fun c s1 => .ok (!c) s1
theorem ref_and {K : PySem.W.Frag} {t u : TT} {f g : FT} (h1 : RefT K t f) (h2 : RefT K u g) : RefT K (tAnd t u) (fAndT f g) := by
 intro as σ H ρ s Q rl en h
 refine h1 as σ H ρ s _ rl en (Dn.bind h fun c s1 as1 H1 b st1 rl1 r1 q1 => ?_)
 have e1 : b = c := r1
 subst e1
 cases b with
 | true => rw [if_pos rfl] at q1 ⊢; exact h2 as1 σ H1 ρ s1 Q rl1 (en.mono st1) q1
 | false => rw [if_neg Bool.false_ne_true] at q1 ⊢; exact Dn.now q1 rl1 rfl
theorem ref_or {K : PySem.W.Frag} {t u : TT} {f g : FT} (h1 : RefT K t f) (h2 : RefT K u g) : RefT K (tOr t u) (fOrT f g) := by
 intro as σ H ρ s Q rl en h
 refine h1 as σ H ρ s _ rl en (Dn.bind h fun c s1 as1 H1 b st1 rl1 r1 q1 => ?_)
 have e1 : b = c := r1
 subst e1
 cases b with
 | false => rw [if_neg Bool.false_ne_true] at q1 ⊢; exact h2 as1 σ H1 ρ s1 Q rl1 (en.mono st1) q1
 | true => rw [if_pos rfl] at q1 ⊢; exact Dn.now q1 rl1 rfl
theorem ref_not {K : PySem.W.Frag} {t : TT} {f : FT} (h1 : RefT K t f) : RefT K (tNot t) (fNotT f) := by
 intro as σ H ρ s Q rl en h
 refine h1 as σ H ρ s _ rl en (Dn.bind h fun c s1 as1 H1 b st1 rl1 r1 q1 => ?_)
 have e1 : b = c := r1
 subst e1
 exact Dn.now q1 rl1 rfl
theorem RW.rt {e : Expr} {f : FT} (h : RW X e f) : RT X e f := let ⟨t, p, r⟩ := h.ex; ⟨t, p.pt, r⟩
theorem rw_and1 {f : FT} (h : RT X a f) : RW X (.BoolOp .And [a] pos) f := let ⟨t, p, r⟩ := h.ex; ⟨t, pw_and1 p, r⟩
theorem rw_or1 {f : FT} (h : RT X a f) : RW X (.BoolOp .Or [a] pos) f := let ⟨t, p, r⟩ := h.ex; ⟨t, pw_or1 p, r⟩
theorem rw_and {f g : FT} {rest : List Expr} (h : RT X a f) (k : RW X (.BoolOp .And (b :: rest) pos) g) : RW X (.BoolOp .And (a :: b :: rest) pos) (fAndT f g) := let ⟨t, p, r⟩ := h.ex; let ⟨t', p', r'⟩ := k.ex; ⟨_, pw_and p p', ref_and r r'⟩
theorem rw_or {f g : FT} {rest : List Expr} (h : RT X a f) (k : RW X (.BoolOp .Or (b :: rest) pos) g) : RW X (.BoolOp .Or (a :: b :: rest) pos) (fOrT f g) := let ⟨t, p, r⟩ := h.ex; let ⟨t', p', r'⟩ := k.ex; ⟨_, pw_or p p', ref_or r r'⟩
theorem rt_not {f : FT} (h : RT X a f) : RT X (.UnaryOp .Not a pos) (fNotT f) := let ⟨t, p, r⟩ := h.ex; ⟨_, pt_not p, ref_not r⟩
noncomputable def fAnd (fa fb : FE) : FE := fun ρ s => (fa ρ s).bind fun d s1 => match d with
 | .bl true => fb ρ s1
 | .bl false => .ok (.bl false) s1
 | _ => .bad
theorem re_one {op} (h : RE X a fa) : RE X (.BoolOp op [a] pos) fa := let ⟨t, p, r⟩ := h.ex; ⟨_, pe_one p, r⟩
theorem re_and {rest : List Expr} (h : RE X a fa) (k : RE X (.BoolOp .And (b :: rest) pos) fb) : RE X (.BoolOp .And (a :: b :: rest) pos) (fAnd fa fb) := by
 obtain ⟨ta, pa, ra⟩ := h.ex
 obtain ⟨tb, pb, rb⟩ := k.ex
 refine ⟨_, pe_and pa pb, fun as σ H ρ s Q rl en h => ?_⟩
 refine ra as σ H ρ s _ rl en (Dn.bind h fun d1 s1 as1 H1 x st1 rl1 r1 h1 => ?_)
 cases r1 with
 | da t =>
  cases t with
  | bl k =>
   refine ⟨k, rfl, ?_⟩
   cases k with
   | false => rw [if_neg Bool.false_ne_true]; exact Dn.now h1 rl1 (.da (.bl false))
   | true => rw [if_pos rfl]; exact rb as1 σ H1 ρ s1 Q rl1 (en.mono st1) h1
  | _ => exact h1.elim
 | _ => exact h1.elim
noncomputable def fNil : FA := fun _ s => .ok [] s
noncomputable def fCons (f : FE) (g : FA) : FA := fun ρ s => (f ρ s).bind fun x s1 => (g ρ s1).bind fun xs s2 => .ok (x :: xs) s2
noncomputable def fVs (ds : List D) : FA := fun _ s => .ok ds s
theorem ra_nil : RA X [] fNil := ⟨_, pa_nil, fun as σ H ρ s Q rl en h => Dn.now h rl .nil⟩
theorem ra_cons {e : Expr} {es : List Expr} {f : FE} {g : FA} (h : RE X e f) (k : RA X es g) (hs : starEach (e :: es) X.env = (false, eval e X.env) :: starEach es X.env := by rfl) : RA X (e :: es) (fCons f g) := by
 obtain ⟨t, p, r⟩ := h.ex
 obtain ⟨t', p', r'⟩ := k.ex
 refine ⟨_, pa_cons p p' hs, fun as σ H ρ s Q rl en h => ?_⟩
 refine r as σ H ρ s _ rl en (Dn.bind h fun d1 s1 as1 H1 x st1 rl1 r1 h1 => ?_)
 refine r' as1 σ H1 ρ s1 _ rl1 (en.mono st1) (Dn.bind h1 fun d2 s2 as2 H2 xs st2 rl2 r2 h2 => ?_)
 exact Dn.now h2 rl2 (.cons (r1.mono st2) r2)
noncomputable def conD : Const -> Option PyData
 | .str x => some (.str x)
 | .int i => some (.int i)
 | .bool b => some (.bool b)
 | .none => some .none
 | _ => none
noncomputable def consD : List Expr -> Option (List PyData)
 | [] => some []
 | .Constant c _ _ :: r => match conD c with
  | some v => match consD r with
   | some vs => some (v :: vs)
   | none => none
  | none => none
 | _ => none
noncomputable def pV : PyData -> V
 | .none => .non
 | .bool b => .bl b
 | .int i => .int i
 | .str x => .str x
 | _ => .non
theorem conD_V {c : Const} {d : PyData} (h : conD c = some d) : conV c = some (pV d) /\ ∀ as H, TD as H (pV d) d := by
 cases c <;> simp [conD] at h <;> subst h
 all_goals first
  | exact ⟨rfl, fun _ _ => .str _⟩
  | exact ⟨rfl, fun _ _ => .int _⟩
  | exact ⟨rfl, fun _ _ => .bl _⟩
  | exact ⟨rfl, fun _ _ => .non⟩
theorem consD_V : ∀ {es : List Expr} {ds : List PyData}, consD es = some ds -> conOf es = some (ds.map pV) /\ ∀ as H, TDs as H (ds.map pV) ds
 | [], ds, h => by cases h; exact ⟨rfl, fun _ _ => .nil⟩
 | e :: es, ds, h => by
  cases e with
  | Constant c j pos =>
   simp only [consD] at h
   cases h1 : conD c with
   | none => (rw [h1] at h; cases h)
   | some v =>
    rw [h1] at h
    cases h2 : consD es with
    | none => rw [h2] at h; cases h
    | some ws =>
     rw [h2] at h
     cases h
     obtain ⟨a1, a2⟩ := conD_V h1
     obtain ⟨b1, b2⟩ := consD_V h2
     exact ⟨by simp only [conOf, a1, b1, List.map_cons], fun as H => .cons (a2 as H) (b2 as H)⟩
  | _ => simp [consD] at h
theorem ra_consts {es : List Expr} {ds : List PyData} (h : consD es = some ds) : RA X es (fVs (ds.map D.da)) := by
 obtain ⟨a, b⟩ := consD_V h
 exact ⟨_, pa_consts a, fun as σ H ρ s Q rl en h => Dn.now h rl (b as H).rd⟩
noncomputable def newL (m : Bool) (ds : List D) (s : S) : R D := if m = true then .ok (.ref s.length) (s ++ [.lst ds]) else match pures ds with
 | some xs => .ok (.lst xs) s
 | none => .bad
noncomputable def newT (ds : List D) (s : S) : R D := match pures ds with
 | some xs => .ok (.tup xs) s
 | none => .bad
theorem newL_ok {K : PySem.W.Frag} {as : As} {H H' : Hp} {s : S} {m : Bool} {ds : List D} {xs : List V} {Q : VK} {p : Addr} (h : Dn K (rD K) as H (newL m ds s) Q) (rl : Rel K as H s) (r : RDs K as H xs ds) (n : New H p (.lst xs) H') : Q (.ref p) H' := by
 unfold newL at h
 cases m with
 | true =>
  rw [if_pos rfl] at h
  refine h (.ref p) (as.add p) H' (step_laid n) (rl.laid n ⟨xs, n.at, r.mono (step_laid n)⟩) (.ref (by simp [rl.len]) fun q e => ?_)
  rw [← rl.len] at e
  simp at e
  exact e.symm
 | false =>
  rw [if_neg Bool.false_ne_true] at h
  cases q : pures ds with
  | none => rw [q] at h; exact h.elim
  | some ys =>
   rw [q] at h
   have e := pures_eq q
   subst e
   exact h (.ref p) as H' (step_new n) (rl.new n) (.da (.lst (fun z => rl.has z n.no) n.at (r.td.mono (step_new n))))
theorem newT_ok {K : PySem.W.Frag} {as : As} {H H' : Hp} {s : S} {ds : List D} {xs : List V} {Q : VK} {p : Addr} (h : Dn K (rD K) as H (newT ds s) Q) (rl : Rel K as H s) (r : RDs K as H xs ds) (n : New H p (.tup xs) H') : Q (.ref p) H' := by
 unfold newT at h
 cases q : pures ds with
 | none => rw [q] at h; exact h.elim
 | some ys =>
  rw [q] at h
  have e := pures_eq q
  subst e
  exact h (.ref p) as H' (step_new n) (rl.new n) (.da (.tup (fun z => rl.has z n.no) n.at (r.td.mono (step_new n))))
noncomputable def fLst (m : Bool) (f : FA) : FE := fun ρ s => (f ρ s).bind fun ds s1 => if ds.length <= sizeLine then newL m ds s1 else .bad
noncomputable def fTup (f : FA) : FE := fun ρ s => (f ρ s).bind fun ds s1 => if ds.length <= sizeLine then newT ds s1 else .bad
theorem re_lst {es : List Expr} {f : FA} (m : Bool) (h : RA X es f) : RE X (.List es pos) (fLst m f) := by
 obtain ⟨t, p, r⟩ := h.ex
 refine ⟨_, pe_lstN p, fun as σ H ρ s Q rl en h => ?_⟩
 refine r as σ H ρ s _ rl en (Dn.bind h fun ds s1 as1 H1 xs st1 rl1 r1 h1 => ?_)
 split at h1
 ·rename_i hz
  exact ⟨by rw [r1.length]; exact hz, fun p H' n => newL_ok h1 rl1 r1 n⟩
 ·exact h1.elim
theorem re_tup {es : List Expr} {f : FA} {x1 : Nat} (h : RA X es f) : RE X (.Tuple es x1 pos) (fTup f) := by
 obtain ⟨t, p, r⟩ := h.ex
 refine ⟨_, pe_tupN p, fun as σ H ρ s Q rl en h => ?_⟩
 refine r as σ H ρ s _ rl en (Dn.bind h fun ds s1 as1 H1 xs st1 rl1 r1 h1 => ?_)
 split at h1
 ·rename_i hz
  exact ⟨by rw [r1.length]; exact hz, fun p H' n => newT_ok h1 rl1 r1 n⟩
 ·exact h1.elim
end
end PF
namespace L2
open PySem PySem.Spec PyProof.Rows
section
variable {X : Cx} {pos : Pos}
noncomputable def gTupX (K : PySem.W.Frag) (n : Nat) (t : TGs) : TG := fun v σ H Q => ∃ a xs, v = .ref a /\ (SqT K H a xs \/ SqL K H a xs) /\ xs.length = n /\ t xs σ H Q
end
end L2
namespace PF
open PySem PySem.Spec
open L2
noncomputable def tOf (K : PySem.W.Frag) (f : FE) : TE := fun σ H Q => ∃ as ρ s, Rel K as H s /\ Envs K as H ρ σ /\ Dn K (rD K) as H (f ρ s) Q
noncomputable def tOfT (K : PySem.W.Frag) (f : FT) : TT := fun σ H Q => ∃ as ρ s, Rel K as H s /\ Envs K as H ρ σ /\ Dn K rB as H (f ρ s) Q
theorem RE.pe {X : Cx} {e : Expr} {f : FE} (h : RE X e f) : PE X e (tOf X.K f) := by
 obtain ⟨t, p, r⟩ := h.ex
 exact p.weak fun σ H Q ⟨as, ρ, s, a, b, c⟩ => r as σ H ρ s Q a b c
inductive Tg where
 | nm (i : Nat) | t2 (a b : Tg) | t3 (a b c : Tg)
noncomputable def gOf (K : PySem.W.Frag) : Tg -> TG
 | .nm i => gName i
 | .t2 a b => gTupX K 2 (gCons (gOf K a) (gCons (gOf K b) gNil))
 | .t3 a b c => gTupX K 3 (gCons (gOf K a) (gCons (gOf K b) (gCons (gOf K c) gNil)))
noncomputable def tupD : D -> Option (List D)
 | .tup ds => some (ds.map D.da)
 | .lst ds => some (ds.map D.da)
 | .con ds => some (ds.map D.da)
 | _ => none
noncomputable def setD : Tg -> D -> En -> Option En
 | .nm i, d, ρ => some (ρ.set i (some d))
 | .t2 a b, d, ρ => match tupD d with
  | some [x, y] => match setD a x ρ with
   | some ρ1 => setD b y ρ1
   | none => none
  | _ => none
 | .t3 a b c, d, ρ => match tupD d with
  | some [x, y, z] => match setD a x ρ with
   | some ρ1 => match setD b y ρ1 with
    | some ρ2 => setD c z ρ2
    | none => none
   | none => none
  | _ => none
noncomputable def tgLt (k : Nat) : Tg -> Bool
 | .nm i => decide (i < k)
 | .t2 a b => tgLt k a && tgLt k b
 | .t3 a b c => tgLt k a && tgLt k b && tgLt k c
noncomputable def Fra (k : Nat) (σ σ' : St) : Prop := ∀ vs cap : St, vs.length = k -> σ = vs ++ cap -> ∃ vs' : St, vs'.length = k /\ σ' = vs' ++ cap
theorem Fra.trans {k : Nat} {a b c : St} (h1 : Fra k a b) (h2 : Fra k b c) : Fra k a c := fun vs cap h e => by
 obtain ⟨v1, l1, e1⟩ := h1 vs cap h e
 exact h2 v1 cap l1 e1
theorem tupD_sq {K : PySem.W.Frag} {as : As} {H : Hp} {v : V} {d : D} {ds : List D} (r : RD K as H v d) (h : tupD d = some ds) : ∃ p xs, v = .ref p /\ (SqT K H p xs \/ SqL K H p xs) /\ RDs K as H xs ds := by
 cases r with
 | da t =>
  cases t with
  | tup n e r => cases h; exact ⟨_, _, rfl, .inl (SqT.of e), r.rd⟩
  | lst n e r => cases h; exact ⟨_, _, rfl, .inr (SqL.of e), r.rd⟩
  | _ => cases h
 | con q r => cases h; exact ⟨_, _, rfl, .inl (q H), r.rd⟩
 | _ => cases h
theorem ref_tg {K : PySem.W.Frag} : ∀ (tg : Tg) {as : As} {σ : St} {H : Hp} {ρ ρ' : En} {v : V} {d : D} {Q : St -> Hp -> Prop}, Envs K as H ρ σ -> RD K as H v d -> setD tg d ρ = some ρ' ->
  (∀ σ', Envs K as H ρ' σ' -> (∀ k, tgLt k tg = true -> Fra k σ σ') -> Q σ' H) -> gOf K tg v σ H Q
 | .nm i, as, σ, H, ρ, ρ', v, d, Q, en, r, e, h => by
  cases e
  refine h (σ.set i (some v)) (en.set i r) fun k hk vs cap hl z => ?_
  have hi : i < k := of_decide_eq_true hk
  subst z
  exact ⟨vs.set i (some v), by simpa using hl, by rw [List.set_append_left _ _ (by omega)]⟩
 | .t2 a b, as, σ, H, ρ, ρ', v, d, Q, en, r, e, h => by
  unfold setD at e
  split at e
  ·rename_i x y q
   obtain ⟨p, xs, rfl, sq, rs⟩ := tupD_sq r q
   cases rs with
   | cons r1 rs =>
   cases rs with
   | cons r2 rs =>
   cases rs
   split at e
   ·rename_i ρ1 q1
    refine ⟨p, _, rfl, sq, rfl, _, _, rfl, ref_tg a en r1 q1 fun σ1 en1 f1 => ⟨_, _, rfl, ref_tg b en1 r2 e fun σ2 en2 f2 => ⟨rfl, h σ2 en2 fun k hk => ?_⟩⟩⟩
    simp only [tgLt, Bool.and_eq_true] at hk
    exact (f1 k hk.1).trans (f2 k hk.2)
   ·cases e
  ·cases e
 | .t3 a b c, as, σ, H, ρ, ρ', v, d, Q, en, r, e, h => by
  unfold setD at e
  split at e
  ·rename_i x y z q
   obtain ⟨p, xs, rfl, sq, rs⟩ := tupD_sq r q
   cases rs with
   | cons r1 rs =>
   cases rs with
   | cons r2 rs =>
   cases rs with
   | cons r3 rs =>
   cases rs
   split at e
   ·rename_i ρ1 q1
    split at e
    ·rename_i ρ2 q2
     refine ⟨p, _, rfl, sq, rfl, _, _, rfl, ref_tg a en r1 q1 fun σ1 en1 f1 => ⟨_, _, rfl, ref_tg b en1 r2 q2 fun σ2 en2 f2 => ⟨_, _, rfl, ref_tg c en2 r3 e fun σ3 en3 f3 => ⟨rfl, h σ3 en3 fun k hk => ?_⟩⟩⟩⟩
     simp only [tgLt, Bool.and_eq_true] at hk
     exact ((f1 k hk.1.1).trans (f2 k hk.1.2)).trans (f3 k hk.2)
    ·cases e
   ·cases e
  ·cases e
abbrev Wk := List D × Option Nat
abbrev FI := En -> S -> R Wk
noncomputable def SrcOk (p : Wk) (s : S) : Prop := match p.2 with
 | none => True
 | some n => s[n]? = some (.lst p.1)
open Classical in
noncomputable def chk {α : Type} (p : Wk) (s : S) (k : R α) : R α := if SrcOk p s then k else .bad
theorem chk_none {α : Type} {ds : List D} {s : S} {k : R α} : chk (ds, none) s k = k := if_pos trivial
theorem chk_pos {α : Type} {p : Wk} {s : S} {k : R α} (h : SrcOk p s) : chk p s k = k := if_pos h
theorem Dn.chk {α β : Type} {K : PySem.W.Frag} {rel : As -> Hp -> β -> α -> Prop} {as : As} {H : Hp} {p : Wk} {s : S} {r : R α} {Q : β -> Hp -> Prop} (h : Dn K rel as H (chk p s r) Q) : SrcOk p s /\ Dn K rel as H r Q := by
 by_cases c : SrcOk p s
 ·rw [chk_pos c] at h; exact ⟨c, h⟩
 ·have e : PF.chk p s r = .bad := if_neg c
  rw [e] at h; exact h.elim
noncomputable def ItOk (K : PySem.W.Frag) (as : As) (H : Hp) (J : It) (p : Wk) : Prop := ∀ as2 H2 s2, Step0 as H as2 H2 -> Rel K as2 H2 s2 -> SrcOk p s2 -> ∀ i : Nat,
 (p.1.length <= i -> J.stop i H2) /\ ∀ d, p.1[i]? = some d -> J.go i H2 /\ ∀ x H3, J.yld i H2 x H3 -> Step as2 H2 as2 H3 /\ Rel K as2 H3 s2 /\ RD K as2 H3 x d
noncomputable def RefI (K : PySem.W.Frag) (wi : TI) (f : FI) : Prop := ∀ as σ H ρ s Q, Rel K as H s -> Envs K as H ρ σ -> Dn K (ItOk K) as H (f ρ s) Q -> wi σ H Q
structure RI (X : Cx) (tg iter : Expr) (f : FI) : Prop where
 ex : ∃ t, PI X tg iter t /\ RefI X.K t f
structure RG (X : Cx) (tg : Expr) (g : Tg) : Prop where
 pg : PG X tg (gOf X.K g)
section
variable {X : Cx} {a b : Expr} {fa fb : FE} {pos : Pos}
theorem rg_name {i : Nat} {x : Str} (hN : X.N.Nodup) (hi : X.N[i]? = some x) (hx : Loc X.env.scope x) (hf : X.fn x = true \/ X.env.scope.names.lookup x = some .local := by first | exact .inl rfl | exact .inr rfl | assumption) : RG X (.Name x pos) (.nm i) := ⟨pg_name hN hi hx hf⟩
noncomputable def fRet (f : FE) : FS := fun ρ s => (f ρ s).bind fun d s1 => .ok (.rt d) s1
noncomputable def fDrop (f : FE) : FS := fun ρ s => (f ρ s).bind fun _ s1 => .ok (.nx ρ) s1
noncomputable def fNext : FS := fun ρ s => .ok (.nx ρ) s
noncomputable def fSet (i : Nat) (f : FE) : FS := fun ρ s => (f ρ s).bind fun d s1 => .ok (.nx (ρ.set i (some d))) s1
noncomputable def fIfS (c : FT) (f g : FS) : FS := fun ρ s => (c ρ s).bind fun k s1 => if k = true then f ρ s1 else g ρ s1
noncomputable def fSeq (f g : FS) : FS := fun ρ s => (f ρ s).bind fun fl s1 => match fl with
 | .nx ρ1 => g ρ1 s1
 | fl => .ok fl s1
theorem rs_ret (h : RE X a fa) : RS X (.Return (some a) pos) (fRet fa) := by
 obtain ⟨t, p, r⟩ := h.ex
 refine ⟨_, ps_ret p, fun as σ H ρ s D rl en h => ?_⟩
 exact r as σ H ρ s _ rl en (Dn.bind h fun d s1 as1 H1 v st1 rl1 r1 h1 => Dn.now (b := FV.rt v) h1 rl1 (.rt r1))
theorem rs_expr (h : RE X a fa) (hs : swapsWith a none pos.line X.env = pure false := by rfl) : RS X (.Expr a pos) (fDrop fa) := by
 obtain ⟨t, p, r⟩ := h.ex
 refine ⟨_, ps_expr p hs, fun as σ H ρ s D rl en h => ?_⟩
 exact r as σ H ρ s _ rl en (Dn.bind h fun d s1 as1 H1 v st1 rl1 r1 h1 => Dn.now (b := FV.nx σ) h1 rl1 (.nx (en.mono st1)))
theorem rs_set {i : Nat} {x : Str} {pos' : Pos} (hN : X.N.Nodup) (hi : X.N[i]? = some x) (hx : Loc X.env.scope x) (h : RE X a fa) (hs : swapsWith a (some (.Name x pos')) pos.line X.env = pure false := by rfl) (hf : X.fn x = true \/ X.env.scope.names.lookup x = some .local := by first | exact .inl rfl | exact .inr rfl | assumption) : RS X (.Assign [.Name x pos'] a pos) (fSet i fa) := by
 obtain ⟨t, p, r⟩ := h.ex
 refine ⟨_, ps_set hN hi hx p hs hf, fun as σ H ρ s D rl en h => ?_⟩
 exact r as σ H ρ s _ rl en (Dn.bind h fun d s1 as1 H1 v st1 rl1 r1 h1 => Dn.now (b := FV.nx (σ.set i (some v))) h1 rl1 (.nx ((en.mono st1).set i r1)))
theorem rs_if {c : Expr} {st su : List Stmt} {fc : FT} {f g : FS} (hc : RT X c fc) (h1 : RSs X st f) (h2 : RSs X su g) : RS X (.If c st su pos) (fIfS fc f g) := by
 obtain ⟨tc, pc, rc⟩ := hc.ex
 obtain ⟨t, p, r⟩ := h1.ex
 obtain ⟨t', p', r'⟩ := h2.ex
 refine ⟨_, ps_if pc p p', fun as σ H ρ s D rl en h => ?_⟩
 refine rc as σ H ρ s _ rl en (Dn.bind h fun k s1 as1 H1 x st1 rl1 r1 h1 => ?_)
 have e1 : x = k := r1
 subst e1
 cases x with
 | true => rw [if_pos rfl] at h1 ⊢; exact r as1 σ H1 ρ s1 D rl1 (en.mono st1) h1
 | false => rw [if_neg Bool.false_ne_true] at h1 ⊢; exact r' as1 σ H1 ρ s1 D rl1 (en.mono st1) h1
theorem rss_nil : RSs X [] fNext := ⟨_, pss_nil, fun as σ H ρ s D rl en h => Dn.now (b := FV.nx σ) h rl (.nx en)⟩
theorem rss_one {st : Stmt} {f : FS} (h : RS X st f) : RSs X [st] f := let ⟨t, p, r⟩ := h.ex; ⟨_, pss_one p, r⟩
theorem ref_seq {K : PySem.W.Frag} {t u : TS} {f g : FS} (h1 : RefS K t f) (h2 : RefS K u g) : RefS K (tSeq t u) (fSeq f g) := by
 intro as σ H ρ s D rl en h
 refine h1 as σ H ρ s _ rl en (Dn.bind h fun fl s1 as1 H1 fv st1 rl1 r1 h1 => ?_)
 cases r1 with
 | nx e => exact h2 as1 _ H1 _ s1 D rl1 e h1
 | rt e => exact (show endF D (.rt _) H1 from Dn.now (K := K) (rel := rF K) (Q := endF D) (b := FV.rt _) h1 rl1 (rF.rt e))
 | bk e => exact (show endF D (.bk _) H1 from Dn.now (K := K) (rel := rF K) (Q := endF D) (b := FV.bk _) h1 rl1 (rF.bk e))
 | ct e => exact (show endF D (.ct _) H1 from Dn.now (K := K) (rel := rF K) (Q := endF D) (b := FV.ct _) h1 rl1 (rF.ct e))
theorem rss_cons {st : Stmt} {rest : List Stmt} {f g : FS} (h : RS X st f) (k : RSs X rest g) : RSs X (st :: rest) (fSeq f g) := by
 obtain ⟨t, p, r⟩ := h.ex
 obtain ⟨t', p', r'⟩ := k.ex
 exact ⟨_, pss_cons p p', ref_seq r r'⟩
noncomputable def loopF (g : Tg) (fb : FS) (p : Wk) : List D -> En -> S -> R Fl
 | [], ρ, s => .ok (.nx ρ) s
 | d :: r, ρ, s => match setD g d ρ with
  | none => .bad
  | some ρ1 => (fb ρ1 s).bind fun fl s2 => match fl with
   | .nx ρ2 => chk p s2 (loopF g fb p r ρ2 s2)
   | .ct ρ2 => chk p s2 (loopF g fb p r ρ2 s2)
   | .bk ρ2 => .ok (.nx ρ2) s2
   | .rt d => .ok (.rt d) s2
noncomputable def fFor (fi : FI) (g : Tg) (fb : FS) : FS := fun ρ s => (fi ρ s).bind fun p s1 => chk p s1 (loopF g fb p p.1 ρ s1)
theorem rs_for {tg iter : Expr} {body : List Stmt} {fi : FI} {g : Tg} {fb : FS} (hc : X.calm = true) (hi : RI X tg iter fi) (hg : RG X tg g) (hb : RSs X body fb) (hp : PassesOwn (model X.prog X.w) X.A X.env X.xe := by exact PassesOwn.never)
  (hs : ∀ x, foldedSetIterable iter X.env x = pure x := by intro _; rfl) : RS X (.For tg iter body [] pos) (fFor fi g fb) := by
 obtain ⟨wi, pi, ri⟩ := hi.ex
 obtain ⟨tb, pb, rb⟩ := hb.ex
 refine ⟨_, ps_for hp hc pi hg.pg pb hs, fun as σ H ρ s D rl en h => ?_⟩
 refine ri as σ H ρ s _ rl en (Dn.bind h fun p s1 as1 H1 J st1 rl1 r1 h1 => ?_)
 obtain ⟨so, h1⟩ := Dn.chk h1
 refine ⟨fun i m σ' H' => ∃ as2 ρ2 s2, m = p.1.length - i /\ i <= p.1.length /\ Step as1 H1 as2 H' /\ Rel X.K as2 H' s2 /\ Envs X.K as2 H' ρ2 σ' /\ SrcOk p s2 /\ Dn X.K (rF X.K) as2 H' (loopF g fb p (p.1.drop i) ρ2 s2) (endF D),
  ⟨_, as1, ρ, s1, rfl, Nat.zero_le _, Step.refl _ _, rl1, en.mono st1, so, h1⟩, ?_⟩
 rintro i m σ' H' ⟨as2, ρ2, s2, hm, hi, st2, rl2, en2, so2, h2⟩
 have tn := r1 as2 H' s2 st2.toStep0 rl2 so2 i
 by_cases hl : i < p.1.length
 ·obtain ⟨d, hd⟩ : ∃ d, p.1[i]? = some d := ⟨_, List.getElem?_eq_getElem hl⟩
  have hdr : p.1.drop i = d :: p.1.drop (i + 1) := by
   rw [List.drop_eq_getElem_cons hl]
   rw [List.getElem?_eq_getElem hl] at hd
   cases hd; rfl
  rw [hdr] at h2
  obtain ⟨go, yl⟩ := tn.2 d hd
  unfold loopF at h2
  split at h2
  ·exact h2.elim
  ·rename_i ρ3 q3
   refine .inr ⟨go, fun σ4 H4 => ∃ as4 ρ4 s4, Step as1 H1 as4 H4 /\ Rel X.K as4 H4 s4 /\ Envs X.K as4 H4 ρ4 σ4 /\ SrcOk p s4 /\ Dn X.K (rF X.K) as4 H4 (loopF g fb p (p.1.drop (i + 1)) ρ4 s4) (endF D), ?_, fun x H3 hy => ?_⟩
   ·rintro σ4 H4 ⟨as4, ρ4, s4, a1, a2, a3, a4, a5⟩
    exact ⟨p.1.length - (i + 1), by omega, as4, ρ4, s4, rfl, hl, a1, a2, a3, a4, a5⟩
   ·obtain ⟨st3, rl3, rx⟩ := yl x H3 hy
    refine ref_tg g (en2.mono st3) rx q3 fun σ3 en3 _ => ?_
    refine rb as2 σ3 H3 ρ3 s2 _ rl3 en3 (Dn.bind (Dn.step h2 st3) fun fl s5 as5 H5 fv st5 rl5 r5 h5 => ?_)
    cases r5 with
    | nx e =>
     obtain ⟨so5, h5⟩ := Dn.chk h5
     exact ⟨as5, _, s5, (st2.trans st3).trans st5, rl5, e, so5, h5⟩
    | ct e =>
     obtain ⟨so5, h5⟩ := Dn.chk h5
     exact ⟨as5, _, s5, (st2.trans st3).trans st5, rl5, e, so5, h5⟩
    | rt e => exact (show endF D (.rt _) H5 from Dn.now (K := X.K) (rel := rF X.K) (Q := endF D) (b := FV.rt _) h5 rl5 (rF.rt e))
    | bk e => exact (show endF D (.nx _) H5 from Dn.now (K := X.K) (rel := rF X.K) (Q := endF D) (b := FV.nx _) h5 rl5 (rF.nx e))
 ·refine .inl ⟨tn.1 (Nat.le_of_not_lt hl), ?_⟩
  rw [List.drop_eq_nil_of_le (Nat.le_of_not_lt hl)] at h2
  exact Dn.now (b := FV.nx σ') h2 rl2 (.nx en2)
end
end PF
namespace PF
open PySem PySem.Spec
open L2
noncomputable def gIter (d : D) (s : S) : R Wk := match d with
 | .lst ds => .ok (ds.map D.da, none) s
 | .tup ds => .ok (ds.map D.da, none) s
 | .con ds => .ok (ds.map D.da, none) s
 | .frz ds => .ok (ds.map D.da, none) s
 | .ref n => match s[n]? with
  | some (.lst ds) => .ok (ds, some n) s
  | _ => .bad
 | _ => .bad
noncomputable def fIt (f : FE) : FI := fun ρ s => (f ρ s).bind gIter
section
variable {X : Cx} {tg a b : Expr} {fa fb : FE} {pos : Pos}
noncomputable def iAny (K : PySem.W.Frag) (tl : TE) : TI := fun σ H R => tl σ H fun x H1 => ∃ a, x = .ref a /\ (((∃ xs, SqL K H1 a xs) /\ R (Itl K a) H1) \/ ((∃ xs, SqT K H1 a xs) /\ R (Itt K a) H1))
theorem pi_any {l : Expr} {tl : TE} (hl : PE X l tl) : PI X tg l (iAny X.K tl) := by
 intro pins s σ H R I h
 refine thn (hl pins s σ H _ I h) fun v s1 ⟨x, H1, I1, r1, q1⟩ => ?_
 obtain ⟨a, e, q1⟩ := q1
 subst e
 cases r1
 have fp : ∀ b ∈ [s1.heap.objs.size], FpOk X pins H1 b := fun b hb => by
  have e : b = s1.heap.objs.size := by simpa using hb
  subst e
  exact I1.fpOk (Nat.le_refl _) (I1.hok.fresh (Nat.le_refl _))
 rcases q1 with ⟨⟨xs, hq⟩, q⟩ | ⟨⟨xs, hq⟩, q⟩
 ·obtain ⟨its, rv, p, hz⟩ := I1.list hq
  refine wpAny_pyIter_list p.isList ?_
  exact ⟨s1.heap.objs.size, [s1.heap.objs.size], _, _, H1, rfl, I1.kept (t' := s1.toks) fun b o e => Heap.get?_push_of_some _ e, turn_list a _, ⟨_, Heap.get?_push_size _ rfl, rfl, rfl⟩, fp, q⟩
 ·obtain ⟨its, rv, p, hz⟩ := I1.tuple hq
  refine wpAny_pyIter_tuple (show s1.heap.IsTuple a its.toArray from p) ?_
  exact ⟨s1.heap.objs.size, [s1.heap.objs.size], _, _, H1, rfl, I1.kept (t' := s1.toks) fun b o e => Heap.get?_push_of_some _ e, turn_tuple a _, ⟨_, Heap.get?_push_size _ rfl, rfl, rfl⟩, fp, q⟩
theorem itok_l {K : PySem.W.Frag} {as : As} {H : Hp} {p : Addr} {xs : List V} {w : Wk} (h : ∀ as2 H2 s2, Step0 as H as2 H2 -> Rel K as2 H2 s2 -> SrcOk w s2 -> ∃ ys, SqL K H2 p ys /\ RDs K as2 H2 ys w.1) : ItOk K as H (Itl K p) w := by
 intro as2 H2 s2 st rl so i
 obtain ⟨ys, sq, rs⟩ := h as2 H2 s2 st rl so
 refine ⟨fun hl => ⟨ys, sq, by rw [rs.length]; exact hl⟩, fun d hd => ?_⟩
 obtain ⟨v, hv, r⟩ := rs.get hd
 refine ⟨⟨ys, v, sq, hv⟩, fun x H3 hy => ?_⟩
 obtain ⟨rfl, hx⟩ := hy
 have := hx ys sq
 rw [hv] at this
 cases this
 exact ⟨Step.refl _ _, rl, r⟩
theorem itok_t {K : PySem.W.Frag} {as : As} {H : Hp} {p : Addr} {xs : List V} {w : Wk} (h : ∀ as2 H2 s2, Step0 as H as2 H2 -> Rel K as2 H2 s2 -> SrcOk w s2 -> ∃ ys, SqT K H2 p ys /\ RDs K as2 H2 ys w.1) : ItOk K as H (Itt K p) w := by
 intro as2 H2 s2 st rl so i
 obtain ⟨ys, sq, rs⟩ := h as2 H2 s2 st rl so
 refine ⟨fun hl => ⟨ys, sq, by rw [rs.length]; exact hl⟩, fun d hd => ?_⟩
 obtain ⟨v, hv, r⟩ := rs.get hd
 refine ⟨⟨ys, v, sq, hv⟩, fun x H3 hy => ?_⟩
 obtain ⟨rfl, hx⟩ := hy
 have := hx ys sq
 rw [hv] at this
 cases this
 exact ⟨Step.refl _ _, rl, r⟩
theorem ref_list {K : PySem.W.Frag} {as : As} {H : Hp} {s : S} {p : Addr} {n : Nat} {ds : List D} (rl : Rel K as H s) (hr : ∀ q, as.ix[n]? = some (some q) -> q = p) (e : s[n]? = some (.lst ds)) : as.ix[n]? = some (some p) /\ ∃ xs, H p = some (.lst xs) /\ RDs K as H xs ds := by
 obtain ⟨q, hq⟩ := rl.li n _ e (by intro z; cases z)
 cases hr q hq
 exact ⟨hq, rl.ob n p _ hq e⟩
theorem ri_any (h : RE X a fa) : RI X tg a (fIt fa) := by
 obtain ⟨t, p, r⟩ := h.ex
 refine ⟨_, pi_any p, fun as σ H ρ s Q rl en h => ?_⟩
 refine r as σ H ρ s _ rl en (Dn.bind h fun d s1 as1 H1 v st1 rl1 r1 h1 => ?_)
 cases r1 with
 | da t =>
  cases t with
  | tup n e rs => exact ⟨_, rfl, .inr ⟨⟨_, SqT.of e⟩, Dn.now (Q := Q) h1 rl1 (itok_t (xs := []) fun as2 H2 s2 st rl so => ⟨_, SqT.of (st.keep _ _ n e), (rs.mono0 st).rd⟩)⟩⟩
  | lst n e rs => exact ⟨_, rfl, .inl ⟨⟨_, SqL.of e⟩, Dn.now (Q := Q) h1 rl1 (itok_l (xs := []) fun as2 H2 s2 st rl so => ⟨_, SqL.of (st.keep _ _ n e), (rs.mono0 st).rd⟩)⟩⟩
  | _ => exact h1.elim
 | con q rs => exact ⟨_, rfl, .inr ⟨⟨_, q H1⟩, Dn.now (Q := Q) h1 rl1 (itok_t (xs := []) fun as2 H2 s2 st rl so => ⟨_, q H2, (rs.mono0 st).rd⟩)⟩⟩
 | frz q rs => exact ⟨_, rfl, .inl ⟨⟨_, q as1 H1 (Step.refl _ _).toStep0⟩, Dn.now (Q := Q) h1 rl1 (itok_l (xs := []) fun as2 H2 s2 st rl so => ⟨_, q as2 H2 st, (rs.mono0 st).rd⟩)⟩⟩
 | @ref pp n l hr =>
  have h1 : Dn X.K (ItOk X.K) as1 H1 (match s1[n]? with | some (O.lst ds) => R.ok (ds, some n) s1 | _ => R.bad) Q := h1
  split at h1
  ·rename_i ds e
   obtain ⟨ha, xs, hx, rs⟩ := ref_list rl1 hr e
   refine ⟨_, rfl, .inl ⟨⟨_, SqL.of hx⟩, Dn.now (Q := Q) h1 rl1 (itok_l (xs := []) fun as2 H2 s2 st rl so => ?_)⟩⟩
   have so' : s2[_]? = some (O.lst ds) := so
   obtain ⟨q, hq⟩ := rl.li _ _ so' (by intro z; cases z)
   have e2 := hq
   rcases st.old _ l with z | z
   ·rw [z] at e2
    cases hr q e2
    obtain ⟨ys, hy, rs2⟩ := rl.ob _ _ _ hq so'
    exact ⟨ys, SqL.of hy, rs2⟩
   ·rw [z] at e2; cases e2
  ·exact h1.elim
 | _ => exact h1.elim
noncomputable def rngD (lo : Int) : Nat -> List D
 | 0 => []
 | n + 1 => .int lo :: rngD (lo + 1) n
theorem rng_len : ∀ (n : Nat) (lo : Int), (rngD lo n).length = n
 | 0, _ => rfl
 | n + 1, lo => congrArg (· + 1) (rng_len n (lo + 1))
theorem rng_get : ∀ (n : Nat) (lo : Int) (i : Nat), i < n -> (rngD lo n)[i]? = some (.int (lo + i))
 | n + 1, lo, 0, _ => by simp [rngD]
 | n + 1, lo, i + 1, h => by
  rw [rngD, List.getElem?_cons_succ, rng_get n (lo + 1) i (by omega)]
  have : lo + 1 + (i : Int) = lo + ((i + 1 : Nat) : Int) := by omega
  rw [this]
theorem itok_r {K : PySem.W.Frag} {as : As} {H : Hp} (lo : Int) (n : Nat) : ItOk K as H (Itr lo n) (rngD lo n, none) := by
 intro as2 H2 s2 st rl so i
 refine ⟨fun hl => by rw [rng_len] at hl; exact hl, fun d hd => ?_⟩
 have hl : i < n := by
  have := (List.getElem?_eq_some_iff.mp hd).1
  rw [rng_len] at this; exact this
 rw [rng_get n lo i hl] at hd
 cases hd
 refine ⟨hl, fun x H3 hy => ?_⟩
 obtain ⟨rfl, rfl⟩ := hy
 exact ⟨Step.refl _ _, rl, .da (.int _)⟩
noncomputable def gRng (ds : List D) (s : S) : R Wk := match ds with
 | [.int j] => if -(2 ^ 62) <= j /\ j < 2 ^ 62 then .ok (rngD 0 j.toNat, none) s else .bad
 | _ => .bad
noncomputable def fRng (f : FA) : FI := fun ρ s => (f ρ s).bind gRng
theorem RD.int_inv {K : PySem.W.Frag} {as : As} {H : Hp} {v : V} {i : Int} (h : RD K as H v (.int i)) : v = .int i := by
 cases h with | da t => cases t; rfl
theorem RD.str_inv {K : PySem.W.Frag} {as : As} {H : Hp} {v : V} {x : Str} (h : RD K as H v (.str x)) : v = .str x := by
 cases h with | da t => cases t; rfl
theorem RD.bl_inv {K : PySem.W.Frag} {as : As} {H : Hp} {v : V} {x : Bool} (h : RD K as H v (.bl x)) : v = .bl x := by
 cases h with | da t => cases t; rfl
theorem RDs.one {K : PySem.W.Frag} {as : As} {H : Hp} {vs : List V} {d : D} (h : RDs K as H vs [d]) : ∃ v, vs = [v] /\ RD K as H v d := by
 cases h with | cons a b => cases b; exact ⟨_, rfl, a⟩
theorem RDs.two {K : PySem.W.Frag} {as : As} {H : Hp} {vs : List V} {d e : D} (h : RDs K as H vs [d, e]) : ∃ v w, vs = [v, w] /\ RD K as H v d /\ RD K as H w e := by
 cases h with | cons a b => cases b with | cons b c => cases c; exact ⟨_, _, rfl, a, b⟩
theorem ri_rng {f : FA} {p : Pos} (hm : X.mg "range" = none) (h : RA X [a] f) (hg : Gl X "range" := by rfl) (hs : starEach [a] X.env = [(false, eval a X.env)] := by rfl) : RI X tg (.Call (.Name "range" p) [a] [] pos) (fRng f) := by
 obtain ⟨t, p, r⟩ := h.ex
 refine ⟨_, pi_range1 hg hm p hs, fun as σ H ρ s Q rl en h => ?_⟩
 refine r as σ H ρ s _ rl en (Dn.bind h fun ds s1 as1 H1 vs st1 rl1 r1 h1 => ?_)
 unfold gRng at h1
 split at h1
 ·rename_i j
  obtain ⟨v, rfl, rv⟩ := r1.one
  cases rv.int_inv
  split at h1
  ·rename_i hb
   exact ⟨j, rfl, hb.1, hb.2, Dn.now (Q := Q) h1 rl1 (itok_r 0 _)⟩
  ·exact h1.elim
 ·exact h1.elim
noncomputable def compF (g : Tg) (ft : FT) (fe : FE) (ρ0 : En) (p : Wk) : List D -> S -> R (List D)
 | [], s => .ok [] s
 | d :: r, s => match setD g d ρ0 with
  | none => .bad
  | some ρ1 => (ft ρ1 s).bind fun b s2 => if b = true then (fe ρ1 s2).bind fun x s3 => chk p s3 ((compF g ft fe ρ0 p r s3).bind fun xs s4 => .ok (x :: xs) s4) else chk p s2 (compF g ft fe ρ0 p r s2)
noncomputable def capD (ρ : En) (js : List Nat) : En := js.map fun j => (ρ[j]?).join
noncomputable def fLc (m : Bool) (js : List Nat) (k : Nat) (fi : FI) (g : Tg) (ft : FT) (fe : FE) : FE := fun ρ s => (fi ρ s).bind fun p s1 => if p.1.length <= sizeLine then chk p s1 ((compF g ft fe (List.replicate k none ++ capD ρ js) p p.1 s1).bind fun ds s2 => newL m ds s2) else .bad
noncomputable def fYes : FT := fun _ s => .ok true s
structure RIfs (X : Cx) (ifs : List Expr) (f : FT) : Prop where
 run : PIfs X ifs (tOfT X.K f)
theorem rifs_nil : RIfs X [] fYes := ⟨fun pins s σ H Q I ⟨as, ρ, s', rl, en, h⟩ => pifs_nil pins s σ H Q I (show Q true H from Dn.now h rl rfl)⟩
theorem Envs.caps {K : PySem.W.Frag} {as : As} {H : Hp} {ρ : En} {σ : St} (e : Envs K as H ρ σ) (js : List Nat) : Envs K as H (capD ρ js) (capV σ js) := by
 refine ⟨by simp [capD, capV], fun i d h => ?_⟩
 unfold capD at h
 unfold capV
 rw [List.getElem?_map] at h ⊢
 cases q : js[i]? with
 | none => rw [q] at h; cases h
 | some j =>
  rw [q] at h
  have h : (ρ[j]?).join = some d := by simpa using h
  cases z : ρ[j]? with
  | none => rw [z] at h; cases h
  | some o =>
   rw [z] at h
   cases o with
   | none => cases h
   | some x =>
    cases h
    obtain ⟨v, e1, r⟩ := e.get j d z
    exact ⟨v, by simp [e1], r⟩
theorem Envs.own {K : PySem.W.Frag} {as : As} {H : Hp} {ρ : En} {σ vs : St} {k : Nat} (e : Envs K as H ρ σ) (hl : vs.length = k) : Envs K as H (List.replicate k none ++ ρ) (vs ++ σ) := by
 refine ⟨by simp [hl, e.len], fun i d h => ?_⟩
 by_cases z : i < k
 ·rw [List.getElem?_append_left (by simpa using z), List.getElem?_replicate] at h
  simp [z] at h
 ·rw [List.getElem?_append_right (by simpa using Nat.le_of_not_lt z)] at h
  rw [List.getElem?_append_right (by rw [hl]; exact Nat.le_of_not_lt z)]
  rw [hl]
  exact e.get _ d (by simpa using h)
theorem lcB {K : PySem.W.Frag} {as : As} {H : Hp} {s : S} {J : It} {p : Wk} {g : Tg} {ft : FT} {fe : FE} {ρ0 : En} {k : Nat} {cap : St} {m : Bool} {Q : VK} (hg : tgLt k g = true) (hz : p.1.length <= sizeLine) (rl : Rel K as H s) (ri : ItOk K as H J p) (so : SrcOk p s)
  (en : ∀ vs : St, vs.length = k -> Envs K as H ρ0 (vs ++ cap)) (h : Dn K (rD K) as H ((compF g ft fe ρ0 p p.1 s).bind fun ds s2 => newL m ds s2) Q) : tLcB (gOf K g) (tOfT K ft) (tOf K fe) k cap J H Q := by
 intro D hD
 have n0 : New H D (.lst []) (upd H D (.lst [])) := ⟨hD, rfl⟩
 have nh : D ∉ as.hd := fun z => by obtain ⟨_, e⟩ := rl.hs D z; rw [hD] at e; cases e
 have s0 := step_hide (as := as) n0
 refine ⟨fun i mm ys H' => ∃ as2 s2 ds, mm = p.1.length - i /\ i <= p.1.length /\ ys.length <= i /\ Step as H as2 H' /\ D ∈ as2.hd /\ Rel K as2 H' s2 /\ SrcOk p s2 /\ RDs K as2 H' ys ds /\
   Dn K (rD K) as H ((compF g ft fe ρ0 p (p.1.drop i) s2).bind fun xs s3 => newL m (ds ++ xs) s3) Q,
  ⟨_, as.hide D, s, [], rfl, Nat.zero_le _, Nat.le_refl _, s0, List.mem_cons_self, rl.hide n0, so, .nil, h⟩, ?_⟩
 rintro i mm ys H' hDi ⟨as2, s2, ds, hm, hi, hys, st2, mD2, rl2, so2, rs, h2⟩
 have tn := ri as2 H' s2 st2.toStep0 rl2 so2 i
 by_cases hl : i < p.1.length
 ·obtain ⟨d, hd⟩ : ∃ d, p.1[i]? = some d := ⟨_, List.getElem?_eq_getElem hl⟩
  have hdr : p.1.drop i = d :: p.1.drop (i + 1) := by
   rw [List.drop_eq_getElem_cons hl]
   rw [List.getElem?_eq_getElem hl] at hd
   cases hd; rfl
  rw [hdr] at h2
  obtain ⟨go, yl⟩ := tn.2 d hd
  unfold compF at h2
  split at h2
  ·exact h2.elim
  ·rename_i ρ3 q3
   refine .inr ⟨go, fun x H3 hy vs hv => ?_⟩
   obtain ⟨st3, rl3, rx⟩ := yl x H3 hy
   refine ref_tg g ((en vs hv).mono (st2.trans st3)) rx q3 fun σ3 en3 fr => ?_
   refine ⟨fr k hg vs cap hv rfl, as2, ρ3, s2, rl3, en3, ?_⟩
   have eD3 : H3 D = some (.lst ys) := st3.hh D mD2 _ hDi
   cases qt : ft ρ3 s2 with
   | bad => rw [qt] at h2; exact h2.elim
   | ok b s4 =>
    rw [qt] at h2
    intro b' as4 H4 st4 rl4 eb
    have eb' : b' = b := eb
    subst eb'
    have mD4 : D ∈ as4.hd := st4.hk D mD2
    have eD4 : H4 D = some (.lst ys) := st4.hh D mD2 _ eD3
    have st24 := (st2.trans st3).trans st4
    rw [R.bind_ok] at h2
    cases b' with
    | false =>
     rw [if_neg Bool.false_ne_true] at h2 ⊢
     by_cases c : SrcOk p s4
     ·rw [chk_pos c] at h2
      exact ⟨eD4, _, by omega, as4, s4, ds, rfl, hl, by omega, st24, mD4, rl4, c, (rs.mono st3).mono st4, h2⟩
     ·have e : chk p s4 (compF g ft fe ρ0 p (p.1.drop (i + 1)) s4) = .bad := if_neg c
      rw [e] at h2; exact h2.elim
    | true =>
     rw [if_pos rfl] at h2 ⊢
     refine ⟨as4, ρ3, s4, rl4, en3.mono st4, ?_⟩
     cases qe : fe ρ3 s4 with
     | bad => rw [qe] at h2; exact h2.elim
     | ok x5 s5 =>
      rw [qe] at h2
      intro v5 as5 H5 st5 rl5 r5
      rw [R.bind_ok] at h2
      have mD5 : D ∈ as5.hd := st5.hk D mD4
      have eD5 : H5 D = some (.lst ys) := st5.hh D mD4 _ eD4
      have st25 := st24.trans st5
      by_cases c : SrcOk p s5
      ·rw [chk_pos c] at h2
       have cg : Chg H5 D (.lst (ys ++ [v5])) (upd H5 D (.lst (ys ++ [v5]))) := ⟨rfl⟩
       have s05 := step0_chg (.inr mD5) cg
       refine ⟨eD5, by omega, _, by omega, as5, s5, ds ++ [x5], rfl, hl, by simp; omega, step_own st25 hD nh mD5 cg, mD5, rl5.chgH mD5 cg, c, ((((rs.mono st3).mono st4).mono st5).append (.cons r5 .nil)).mono0 s05, ?_⟩
       cases qc : compF g ft fe ρ0 p (p.1.drop (i + 1)) s5 with
       | bad => rw [qc] at h2; exact h2.elim
       | ok xs s6 =>
        rw [qc] at h2
        show Dn K (rD K) as H (newL m ((ds ++ [x5]) ++ xs) s6) Q
        rw [List.append_assoc]
        exact h2
      ·have e : chk p s5 ((compF g ft fe ρ0 p (p.1.drop (i + 1)) s5).bind fun xs s4 => .ok (x5 :: xs) s4) = .bad := if_neg c
       rw [e] at h2; exact h2.elim
 ·refine .inl ⟨tn.1 (Nat.le_of_not_lt hl), ?_⟩
  rw [List.drop_eq_nil_of_le (Nat.le_of_not_lt hl)] at h2
  replace h2 : Dn K (rD K) as H (newL m (ds ++ []) s2) Q := h2
  rw [List.append_nil] at h2
  unfold newL at h2
  cases m with
  | true =>
   rw [if_pos rfl] at h2
   refine h2 (.ref D) _ H' (step_end2 st2 nh mD2) (rl2.take mD2 ⟨ys, hDi, rs.mono0 (step_take mD2)⟩) (.ref (by simp [rl2.len]) fun q e => ?_)
   rw [← rl2.len] at e
   simp at e
   exact e.symm
  | false =>
   rw [if_neg Bool.false_ne_true] at h2
   cases q : pures ds with
   | none => rw [q] at h2; exact h2.elim
   | some zs =>
    rw [q] at h2
    have e := pures_eq q
    subst e
    have h2 : Dn K (rD K) as H (R.ok (.lst zs) s2) Q := h2
    refine h2 (.ref D) _ H' (step_end st2 nh step_show) rl2.show (.da (.lst (fun z => ?_) hDi (rs.td.mono0 step_show)))
    rcases z with z | z
    ·exact rl2.hx D mD2 z
    ·exact absurd rfl (of_decide_eq_true (List.mem_filter.mp z).2)
end
end PF
namespace PF
open PySem PySem.Spec
open L2
open PyProof.Rows (envOfC)
section
variable {X : Cx} {own caps : List Str} {js : List Nat} {scope : Scope} {tg iter elt a : Expr} {ifs : List Expr} {fi : FI} {g : Tg} {ft : FT} {fe fa : FE} {pos : Pos}
theorem ref_lc {K : PySem.W.Frag} {wi : TI} {k : Nat} {m : Bool} (ri : RefI K wi fi) (hl : tgLt k g = true) : RefE K (tLc js k wi (gOf K g) (tOfT K ft) (tOf K fe)) (fLc m js k fi g ft fe) := by
 intro as σ H ρ s Q rl en h
 refine ri as σ H ρ s _ rl en (Dn.bind h fun p s1 as1 H1 J st1 rl1 r1 h1 => ?_)
 split at h1
 ·rename_i hz
  obtain ⟨so, h1⟩ := Dn.chk h1
  exact lcB hl hz rl1 r1 so (fun vs hv => ((en.mono st1).caps js).own hv) h1
 ·exact h1.elim
theorem re_lc (m : Bool) (hcalm : X.calm = true) (hkind : scope.kind = .function) (hnames : (scope.names.all fun p => !(p.2 == .local) || (scope.names.lookup p.1 == some .local)) = true) (hcell : (scope.names.any fun p => p.2 == .cell) = false)
  (hk : (scope.names.all fun p => !(p.2 == .free) || (X.env.kindOf p.1 == some .cell || X.env.kindOf p.1 == some .free)) = true)
  (hcap : Caps X scope caps js) (hl : tgLt own.length g = true) (hi : RI X tg iter fi) (hg : ∀ C fp s H, RG (cxLc X own caps scope C fp s H) tg g) (ht : ∀ C fp s H, RIfs (cxLc X own caps scope C fp s H) ifs ft) (he : ∀ C fp s H, RE (cxLc X own caps scope C fp s H) elt fe)
  (hs : ∀ x, foldedSetIterable iter X.env x = pure x := by intro _; rfl) : RE X (.ListComp elt [⟨tg, iter, ifs, 0⟩] scope pos) (fLc m js own.length fi g ft fe) := by
 obtain ⟨wi, pi, ri⟩ := hi.ex
 exact ⟨_, pe_lc hcalm hkind hnames hcell hk hcap pi (fun C fp s H => (hg C fp s H).pg) (fun C fp s H => (ht C fp s H).run) (fun C fp s H => (he C fp s H).pe) hs, ref_lc ri hl⟩
end
abbrev FF := List D -> S -> R D
noncomputable def spF (K : PySem.W.Frag) (n : Nat) (F : FF) : Sp := fun vs H Q _ => vs.length = n /\ ∃ as ds s, Rel K as H s /\ RDs K as H vs ds /\ Dn K (rD K) as H (F ds s) Q
structure CalF (P : Program) (w : World) (K : PySem.W.Frag) (mg : Str -> Option Value) (base : Heap) (x : Str) (k n : Nat) (F : FF) : Prop where
 cal : Cal P w K mg base x k (spF K n F)
noncomputable def fCall (n : Nat) (F : FF) (f : FA) : FE := fun ρ s => (f ρ s).bind fun ds s1 => if ds.length = n then F ds s1 else .bad
section
variable {X : Cx} {x : Str} {k n : Nat} {F : FF} {p pos : Pos} {e : Expr} {es : List Expr} {f : FA}
theorem re_c (c : CalF X.prog X.w X.K X.mg X.base x k n F) (hr : Room k X.A) (ha : RA X (e :: es) f) (hg : Gl X x := by rfl) (hdb : (x == ("__debug__" : Str)) = false := by decide)
  (he : starEach (e :: es) X.env = (false, eval e X.env) :: starEach es X.env := by rfl) (hpl : (backTo pos (starEach es X.env)).any (·.1) = false := by rfl) : RE X (.Call (.Name x p) (e :: es) [] pos) (fCall n F f) := by
 obtain ⟨t, p, r⟩ := ha.ex
 refine ⟨_, pe_c c.cal hr p hg hdb he hpl, fun as σ H ρ s Q rl en h => ?_⟩
 refine r as σ H ρ s _ rl en (Dn.bind h fun ds s1 as1 H1 vs st1 rl1 r1 h1 => ?_)
 split at h1
 ·rename_i hn
  refine ⟨by rw [List.append_nil, r1.length]; exact hn, as1, ds, s1, rl1, ?_, h1⟩
  rw [List.append_nil]; exact r1
 ·exact h1.elim
end
noncomputable def bodyF (m : Nat) (fb : FS) : FF := fun ds s => (fb (ds.map some ++ List.replicate (m - ds.length) none) s).bind fun fl s1 => match fl with
 | .rt d => .ok d s1
 | .nx _ => .ok .non s1
 | _ => .bad
theorem start_envs {K : PySem.W.Frag} {as : As} {H : Hp} {N : List Str} {vs : List V} {ds : List D} (r : RDs K as H vs ds) : Envs K as H (ds.map some ++ List.replicate (N.length - ds.length) none) (L2.start N vs) := by
 unfold L2.start
 refine ⟨by simp [r.length], fun i d h => ?_⟩
 by_cases z : i < ds.length
 ·rw [List.getElem?_append_left (by simpa using z), List.getElem?_map] at h
  cases q : ds[i]? with
  | none => rw [q] at h; cases h
  | some x =>
   rw [q] at h
   cases h
   obtain ⟨v, hv, rv⟩ := r.get q
   exact ⟨v, by rw [List.getElem?_append_left (by rw [List.length_map, r.length]; exact z), List.getElem?_map, hv]; rfl, rv⟩
 ·rw [List.getElem?_append_right (by simpa using Nat.le_of_not_lt z), List.getElem?_replicate] at h
  split at h
  ·cases h
  ·cases h
section
variable {P : Program} {w : World} {K : PySem.W.Frag} {mg : Str -> Option Value} {base : Heap} {x : Str} {st : Stmt} {N ps : List Str} {k : Nat}
theorem calF (h : Has K mg x st ps) (S : FnScope N ps (defScope st)) {m n : Nat} {fb : FS} (hm : N.length = m) (hn : ps.length = n)
  (hbody : ∀ (f : Addr) (cdv : Value) (A : Around) (outer : List Env) (s : Shared) (H : Hp) (E : XK), Room k (A.deeper (envOfC x (defScope st) s.heap.objs.size f cdv)) ->
   RSs (cxOf CX0 P w K mg base N x (defScope st) f cdv A outer s H E).nox (defBody st) fb) : CalF P w K mg base x (k + 1) n (bodyF m fb) := by
 refine ⟨h.cal S (fun vs H Q E h => by rw [hn]; exact h.1) fun f cdv A outer s H vs Q E hr h => ?_⟩
 obtain ⟨hv, as, ds, s', rl, rs, h⟩ := h
 obtain ⟨t, p, r⟩ := (hbody f cdv A outer s H E hr).ex
 refine ⟨t, p, ?_⟩
 have en : Envs K as H (ds.map some ++ List.replicate (m - ds.length) none) (L2.start N vs) := by rw [← hm]; exact start_envs rs
 refine r as _ H _ s' _ rl en (Dn.bind h fun fl s1 as1 H1 fv st1 rl1 r1 h1 => ?_)
 cases r1 with
 | nx e => exact Dn.now (Q := Q) h1 rl1 (.da .non)
 | rt e => exact Dn.now (Q := Q) h1 rl1 e
 | bk e => exact h1.elim
 | ct e => exact h1.elim
end
noncomputable def spLaw (K : PySem.W.Frag) : Sp := fun vs H Q _ => ∃ (a : Addr) (ns : List Int), vs = [.ref a] /\ SqL K H a (ns.map V.int) /\ ns.length <= 63 /\ ∀ H', Q (.bl true) H'
theorem TDs.ints {as : As} {H : Hp} : ∀ ns : List Int, TDs as H (ns.map V.int) (ns.map PyData.int)
 | [] => .nil
 | n :: r => .cons (.int n) (TDs.ints r)
end PF
namespace PF
open PySem PySem.Spec
open L2
section
variable {X : Cx} {pins : List (Addr × Obj)} {σ : St} {H : Hp} {s : Shared} {as : As}
theorem dct_empty {a : Addr} (I : Inv X pins σ H s) (e : H a = some (.dK [])) : (a == sysModules) = false /\ ∃ (o : Obj) (es : Array DictEntry) (ep : Nat), s.heap.get? a = some o /\ o.cls = .type "dict" /\ o.data = .dict es ep /\ es.toList = [] := by
 obtain ⟨_, hd, vs, rel, dd⟩ := dk_of I.hok e
 cases rel
 obtain ⟨o, es, ep, h1, h2, h3, h4, h5⟩ := dd
 refine ⟨hd, o, es, ep, h1, h2.1, h3, ?_⟩
 cases h6 : es.toList with
 | nil => rfl
 | cons x r => rw [h6] at h5; obtain ⟨h5, _⟩ := h5; cases h5
theorem dct_one {a : Addr} {i : Int} {v : V} (I : Inv X pins σ H s) (e : H a = some (.dK [(.inl i, v)])) : (a == sysModules) = false /\ ∃ (o : Obj) (es : Array DictEntry) (ep : Nat) (hs : Int) (t : Tok) (u : Value), RelV v u /\ s.heap.get? a = some o /\ o.cls = .type "dict" /\ o.data = .dict es ep /\ es.toList = [⟨hs, .int i t, u⟩] := by
 obtain ⟨_, hd, vs, rel, dd⟩ := dk_of I.hok e
 cases rel with
 | @cons _ b _ _ r1 r2 =>
  cases r2
  obtain ⟨k, u⟩ := b
  obtain ⟨r0, r1⟩ := r1
  obtain rfl : Sum.inl i = k := r0
  obtain ⟨o, es, ep, h1, h2, h3, h4, h5, _⟩ := dd
  refine ⟨hd, o, es, ep, ?_⟩
  cases h6 : es.toList with
  | nil => rw [h6] at h5; cases h5
  | cons x r =>
   rw [h6] at h5
   cases h5 with
   | cons k1 k2 k3 =>
    cases k3
    obtain ⟨hs, key, val⟩ := x
    rcases keyIs_shape (k := .inl i) (v := key) k1 with ⟨j, t, e1, e2⟩ | ⟨y, t, e1, _⟩
    ·cases e1
     obtain rfl : key = Value.int i t := e2
     obtain rfl : val = u := k2
     exact ⟨hs, t, val, r1, h1, h2.1, h3, rfl⟩
    ·cases e1
mutual
theorem TD.reads (I : Inv X pins σ H s) : ∀ {v : V} {d : PyData} {u : Value}, TD as H v d -> RelV v u -> ∃ bs, Reads s.heap u d bs
 | _, _, u, .non, r => by cases (show u = Value.none from r); exact ⟨_, .none⟩
 | _, _, u, .bl b, r => by cases (show u = Value.bool b from r); exact ⟨_, .bool b⟩
 | _, _, u, .int i, r => by obtain ⟨t, e⟩ := (show ∃ t, u = Value.int i t from r); subst e; exact ⟨_, .int i t⟩
 | _, _, u, .str x, r => by obtain ⟨t, e⟩ := (show ∃ t, u = Value.str x t from r); subst e; exact ⟨_, .str x t⟩
 | _, _, u, .tup (p := a) (xs := xs) n e q, r => by
  cases (show u = Value.ref a from r)
  obtain ⟨z, its, rv, p⟩ := (show ObjOk X.prog X.w H s.heap a (.tup xs) from I.hok a _ e)
  obtain ⟨o, h1, h2, k, h3⟩ := p.tup
  obtain ⟨bs, ra⟩ := TDs.reads I q rv
  exact ⟨_, .tuple h1 h2 h3 ra⟩
 | _, _, u, .lst (p := a) (xs := xs) n e q, r => by
  cases (show u = Value.ref a from r)
  obtain ⟨z, its, k, rv, h1⟩ := (show ObjOk X.prog X.w H s.heap a (.lst xs) from I.hok a _ e)
  obtain ⟨bs, ra⟩ := TDs.reads I q rv
  exact ⟨_, .list h1 rfl rfl ra⟩
 | _, _, u, .dct (p := a) n e, r => by
  cases (show u = Value.ref a from r)
  obtain ⟨_, o, es, ep, h1, h2, h3, h4⟩ := dct_empty I e
  exact ⟨_, .dict (kvs := []) h1 h2 h3 (by rw [h4]; exact .nil) (by rw [h4]; exact .nil)⟩
 | _, _, u, .dc1 (p := a) (i := i) (d := d) n e q, r => by
  cases (show u = Value.ref a from r)
  obtain ⟨_, o, es, ep, hs, t, y, ry, h1, h2, h3, h4⟩ := dct_one I e
  obtain ⟨bs, ra⟩ := TD.reads I q ry
  exact ⟨_, .dict (kvs := [(.int i, d)]) h1 h2 h3 (by rw [h4]; exact .cons (.int i t) .nil) (by rw [h4]; exact .cons ra .nil)⟩
theorem TDs.reads (I : Inv X pins σ H s) : ∀ {vs : List V} {ds : List PyData} {us : List Value}, TDs as H vs ds -> Vals vs us -> ∃ bs, ReadsAll s.heap us ds bs
 | _, _, _, .nil, r => by cases r; exact ⟨_, .nil⟩
 | _, _, _, .cons a b, r => by
  cases r with
  | cons r1 r2 =>
   obtain ⟨as, h1⟩ := TD.reads I a r1
   obtain ⟨bs, h2⟩ := TDs.reads I b r2
   exact ⟨_, .cons h1 h2⟩
end
noncomputable def toP (s : S) : D -> Option PyData
 | .da d => some d
 | .con ds => some (.tuple ds)
 | .frz ds => some (.list ds)
 | .ref n => match s[n]? with
  | some (.lst ds) => (pures ds).map PyData.list
  | _ => none
 | _ => none
noncomputable def toL (s : S) : D -> Option (List D)
 | .lst ds => some (ds.map D.da)
 | .ref n => match s[n]? with
  | some (.lst ds) => some ds
  | _ => none
 | _ => none
theorem toL_ok {K : PySem.W.Frag} {st : S} {v : V} {d : D} {ds : List D} (rl : Rel K as H st) (r : RD K as H v d) (h : toL st d = some ds) : ∃ p xs, v = .ref p /\ H p = some (.lst xs) /\ RDs K as H xs ds := by
 cases r with
 | da t =>
  cases t with
  | lst n e q => cases h; exact ⟨_, _, rfl, e, q.rd⟩
  | _ => cases h
 | @ref p n l hr =>
  have h : (match st[n]? with | some (O.lst ds) => some ds | _ => none) = some ds := h
  split at h
  ·rename_i ys e
   cases h
   obtain ⟨_, xs, hx, rs⟩ := ref_list rl hr e
   exact ⟨p, xs, rfl, hx, rs⟩
  ·cases h
 | _ => cases h
theorem RD.reads {st : S} {v : V} {d : D} {pd : PyData} {u : Value} (I : Inv X pins σ H s) (rl : Rel X.K as H st) (r : RD X.K as H v d) (h : toP st d = some pd) (ru : RelV v u) : ∃ bs, Reads s.heap u pd bs := by
 cases r with
 | da t => cases h; exact t.reads I ru
 | con q rs =>
  cases h
  obtain ⟨its, rv, ⟨o, h1, h2, k, h3⟩, z⟩ := I.tuple (q H)
  obtain ⟨bs, ra⟩ := rs.reads I rv
  cases ru
  exact ⟨_, .tuple h1 h2 h3 ra⟩
 | frz q rs =>
  cases h
  obtain ⟨its, rv, ⟨o, k, h1, h2, h3, h4⟩, z⟩ := I.list (q as H (Step.refl _ _).toStep0)
  obtain ⟨bs, ra⟩ := rs.reads I rv
  cases ru
  exact ⟨_, .list h1 h2 h4 ra⟩
 | @ref p n l hr =>
  have h : (match st[n]? with | some (O.lst ds) => (pures ds).map PyData.list | _ => none) = some pd := h
  split at h
  ·rename_i ds e
   cases q : pures ds with
   | none => rw [q] at h; cases h
   | some xs =>
    rw [q] at h
    cases h
    have e2 := pures_eq q
    subst e2
    obtain ⟨_, vs, hv, rs⟩ := ref_list rl hr e
    obtain ⟨z, its, k, rv, h1⟩ := (show ObjOk X.prog X.w H s.heap p (.lst vs) from I.hok p _ hv)
    obtain ⟨bs, ra⟩ := rs.td.reads I rv
    cases ru
    exact ⟨_, .list h1 rfl rfl ra⟩
  ·cases h
 | _ => cases h
end
noncomputable def okD (d : PyData) : Bool := d.canLay0 && decide (d.depth <= 64)
section
variable {X : Cx}
theorem op2_of {f : Value -> Value -> Sem Value} {g : D -> D -> S -> R D} (h : ∀ (pins : List (Addr × Obj)) (sh : Shared) (σ : St) (H : Hp) (as : As) (s : S) (x y : V) (dx dy : D) (v u : Value) (Q : VK), Inv X pins σ H sh -> Rel X.K as H s -> RD X.K as H x dx -> RD X.K as H y dy -> RelV x v -> RelV y u ->
  Dn X.K (rD X.K) as H (g dx dy s) Q -> wpAny (model X.prog X.w) X.A (f v u) (EP X pins σ Q) X.xe sh) : Op2 X f g :=
 ⟨fun x y H Q => ∃ as s dx dy, Rel X.K as H s /\ RD X.K as H x dx /\ RD X.K as H y dy /\ Dn X.K (rD X.K) as H (g dx dy s) Q,
  fun pins sh σ H x y v u Q I rx ry ⟨as, s, dx, dy, rl, r1, r2, q⟩ => h pins sh σ H as s x y dx dy v u Q I rl r1 r2 rx ry q,
  fun as H s x y dx dy Q rl r1 r2 q => ⟨as, s, dx, dy, rl, r1, r2, q⟩⟩
noncomputable def gEqD (dx dy : D) (s : S) : R D := match toP s dx, toP s dy with
 | some a, some b => if okD a = true /\ okD b = true then .ok (.bl (PyData.eqv a b)) s else .bad
 | _, _ => .bad
noncomputable def gNeD (dx dy : D) (s : S) : R D := match toP s dx, toP s dy with
 | some a, some b => if okD a = true /\ okD b = true then .ok (.bl (!PyData.eqv a b)) s else .bad
 | _, _ => .bad
noncomputable def gEq (dx dy : D) (s : S) : R D := match dx, dy with
 | .str x, .str y => .ok (.bl (decide (x = y))) s
 | dx, dy => gEqD dx dy s
noncomputable def gNe (dx dy : D) (s : S) : R D := match dx, dy with
 | .str x, .str y => .ok (.bl (!decide (x = y))) s
 | dx, dy => gNeD dx dy s
theorem okD_lay {d : PyData} (h : okD d = true) : d.canLay0 = true /\ d.depth <= 64 := by
 unfold okD at h
 rw [Bool.and_eq_true] at h
 exact ⟨h.1, of_decide_eq_true h.2⟩
theorem o_eqD (hu : X.A.units + 64 < cLine) : Op2 X (compareOp .Eq) gEqD := op2_of fun pins sh σ H as s x y dx dy v u Q I rl r1 r2 rx ry h => by
 unfold gEqD at h
 split at h
 ·rename_i a b ea eb
  split at h
  ·rename_i hok
   obtain ⟨bs1, q1⟩ := r1.reads I rl ea rx
   obtain ⟨bs2, q2⟩ := r2.reads I rl eb ry
   obtain ⟨c1, d1⟩ := okD_lay hok.1
   obtain ⟨c2, d2⟩ := okD_lay hok.2
   exact SeqAt.compareEq_reads q1 q2 c1 c2 (by omega) ⟨.bl _, H, I, rfl, Dn.now (Q := Q) h rl (.da (.bl _))⟩
  ·exact h.elim
 ·exact h.elim
theorem o_neD (hu : X.A.units + 64 < cLine) : Op2 X (compareOp .NotEq) gNeD := op2_of fun pins sh σ H as s x y dx dy v u Q I rl r1 r2 rx ry h => by
 unfold gNeD at h
 split at h
 ·rename_i a b ea eb
  split at h
  ·rename_i hok
   obtain ⟨bs1, q1⟩ := r1.reads I rl ea rx
   obtain ⟨bs2, q2⟩ := r2.reads I rl eb ry
   obtain ⟨c1, d1⟩ := okD_lay hok.1
   obtain ⟨c2, d2⟩ := okD_lay hok.2
   exact SeqAt.compareNe_reads q1 q2 c1 c2 (by omega) ⟨.bl _, H, I, rfl, Dn.now (Q := Q) h rl (.da (.bl _))⟩
  ·exact h.elim
 ·exact h.elim
theorem str_eqV (x y : Str) : decide (V.str x = V.str y) = decide (x = y) := by
 rw [Bool.eq_iff_iff, decide_eq_true_eq, decide_eq_true_eq, V.str.injEq]
theorem str_inv' {K : PySem.W.Frag} {as : As} {H : Hp} {v : V} {x : Str} (h : RD K as H v (.str x)) : v = .str x := by
 cases h with | da t => cases t; rfl
theorem o_eq (hu : X.A.units + 64 < cLine) : Op2 X (compareOp .Eq) gEq := op2_of fun pins sh σ H as s x y dx dy v u Q I rl r1 r2 rx ry h => by
 unfold gEq at h
 split at h
 ·cases str_inv' r1; cases str_inv' r2
  exact op_eq pins sh σ H _ _ v u Q I rx ry ⟨rfl, by rw [str_eqV]; exact Dn.now (Q := Q) h rl (.da (.bl _))⟩
 ·obtain ⟨r, ho, hr⟩ := (o_eqD (X := X) hu).ex
  exact ho pins sh σ H x y v u Q I rx ry (hr as H s x y _ _ Q rl r1 r2 h)
theorem o_ne (hu : X.A.units + 64 < cLine) : Op2 X (compareOp .NotEq) gNe := op2_of fun pins sh σ H as s x y dx dy v u Q I rl r1 r2 rx ry h => by
 unfold gNe at h
 split at h
 ·cases str_inv' r1; cases str_inv' r2
  exact op_ne pins sh σ H _ _ v u Q I rx ry ⟨rfl, by rw [str_eqV]; exact Dn.now (Q := Q) h rl (.da (.bl _))⟩
 ·obtain ⟨r, ho, hr⟩ := (o_neD (X := X) hu).ex
  exact ho pins sh σ H x y v u Q I rx ry (hr as H s x y _ _ Q rl r1 r2 h)
noncomputable def itemsP : PyData -> Option (List PyData)
 | .list ds => some ds
 | .tuple ds => some ds
 | _ => none
noncomputable def nb (n b : Bool) : Bool := match n with
 | true => !b
 | false => b
noncomputable def gInS (neg : Bool) (dx dy : D) (s : S) : R D := match toP s dx, (toP s dy).bind itemsP with
 | some a, some ds => if okD a = true /\ ds.all okD = true then .ok (.bl (nb neg (ds.any fun d => PyData.eqv d a))) s else .bad
 | _, _ => .bad
noncomputable def gInB (neg : Bool) (dx dy : D) (s : S) : R D := match dx, dy with
 | .str a, .str b => .ok (.bl (nb neg (!(Builtin.Str.occurrences b a 0 b.length 1).isEmpty))) s
 | dx, dy => gInS neg dx dy s
open Classical in
theorem eqAts {sh : Shared} {A : Around} {v : Value} {a : PyData} {bs : List Addr} (ra : Reads sh.heap v a bs) (ha : okD a = true) (hu : A.units + 64 < cLine) {us : List Value} {ds : List PyData} {cs : List Addr} (h : ReadsAll sh.heap us ds cs) (hd : ds.all okD = true) :
  ∃ e : Value -> Bool, (∀ y ∈ us, SeqAt.EqAt A sh y v (e y)) /\ us.any e = ds.any fun d => PyData.eqv d a := by
 refine ⟨fun y => decide (∃ d cs, Reads sh.heap y d cs /\ PyData.eqv d a = true), ?_⟩
 have one : ∀ {y : Value} {d : PyData} {cs : List Addr}, Reads sh.heap y d cs -> decide (∃ d cs, Reads sh.heap y d cs /\ PyData.eqv d a = true) = PyData.eqv d a := fun {y d cs} r => by
  (rw [Bool.eq_iff_iff, decide_eq_true_eq])
  constructor
  ·rintro ⟨d', cs', r', e⟩
   obtain ⟨q, _⟩ := PyProof.Rows.reads_det (fun _ _ e _ => e) r r'
   subst q; exact e
  ·exact fun e => ⟨d, cs, r, e⟩
 induction us generalizing ds cs with
 | nil =>
  cases h
  exact ⟨fun _ z => (by cases z), rfl⟩
 | cons u us ih =>
  cases h with
  | cons r rs =>
   rw [List.all_cons, Bool.and_eq_true] at hd
   obtain ⟨i1, i2⟩ := ih rs hd.2
   obtain ⟨l1, m1⟩ := okD_lay hd.1
   obtain ⟨l2, m2⟩ := okD_lay ha
   refine ⟨fun y hy => ?_, ?_⟩
   ·rcases List.mem_cons.mp hy with z | z
    ·subst z
     show SeqAt.EqAt A sh y v (decide (∃ d cs, Reads sh.heap y d cs /\ PyData.eqv d a = true))
     rw [one r]
     exact SeqAt.eqAt_reads _ _ A sh _ _ _ _ r ra l1 l2 (by omega)
    ·exact i1 y z
   ·rw [List.any_cons, List.any_cons, i2, one r]
theorem in1_units (A : Around) : A.in1.units <= A.units + 1 := by
 show (A.in1).units <= A.units + 1
 first | exact Nat.le_refl _ | (unfold Around.in1; simp) | simp [Around.in1]
theorem inS_ok (neg : Bool) {op : CmpOp} (hop : (neg = false /\ op = .In) \/ (neg = true /\ op = .NotIn)) (hu : X.A.units + 65 < cLine) : Op2 X (compareOp op) (gInS neg) := op2_of fun pins sh σ H as s x y dx dy v u Q I rl r1 r2 rx ry h => by
 unfold gInS at h
 split at h
 ·rename_i a ds ea ed
  split at h
  ·rename_i hok
   obtain ⟨bs1, q1⟩ := r1.reads I rl ea rx
   cases e2 : toP s dy with
   | none => rw [e2] at ed; cases ed
   | some pd =>
    rw [e2] at ed
    have ed : itemsP pd = some ds := ed
    obtain ⟨bs2, q2⟩ := r2.reads I rl e2 ry
    have hin := in1_units X.A
    cases q2 with
    | list k1 k2 k3 k4 =>
     cases ed
     obtain ⟨e, he, ha⟩ := eqAts (A := X.A.in1) q1 hok.1 (by omega) k4 hok.2
     rcases hop with ⟨rfl, rfl⟩ | ⟨rfl, rfl⟩
     ·refine SeqAt.in_listAt e ⟨_, k1, k2, _, k3⟩ (fun y hy => he y (by simpa using hy)) ⟨.bl _, H, I, rfl, ?_⟩
      rw [← Array.any_toList, ha]
      exact Dn.now (Q := Q) h rl (.da (.bl _))
     ·refine SeqAt.notIn_listAt e ⟨_, k1, k2, _, k3⟩ (fun y hy => he y (by simpa using hy)) ⟨.bl _, H, I, rfl, ?_⟩
      rw [← Array.any_toList, ha]
      exact Dn.now (Q := Q) h rl (.da (.bl _))
    | tuple k1 k2 k3 k4 =>
     cases ed
     obtain ⟨e, he, ha⟩ := eqAts (A := X.A.in1) q1 hok.1 (by omega) k4 hok.2
     rcases hop with ⟨rfl, rfl⟩ | ⟨rfl, rfl⟩
     ·refine SeqAt.in_tupleAt e ⟨_, k1, k2, _, k3⟩ (fun y hy => he y (by simpa using hy)) ⟨.bl _, H, I, rfl, ?_⟩
      rw [← Array.any_toList, ha]
      exact Dn.now (Q := Q) h rl (.da (.bl _))
     ·refine SeqAt.notIn_tupleAt e ⟨_, k1, k2, _, k3⟩ (fun y hy => he y (by simpa using hy)) ⟨.bl _, H, I, rfl, ?_⟩
      rw [← Array.any_toList, ha]
      exact Dn.now (Q := Q) h rl (.da (.bl _))
    | _ => cases ed
  ·exact h.elim
 ·exact h.elim
theorem in_ok (neg : Bool) {op : CmpOp} (hop : (neg = false /\ op = .In) \/ (neg = true /\ op = .NotIn)) (hu : X.A.units + 65 < cLine) : Op2 X (compareOp op) (gInB neg) := op2_of fun pins sh σ H as s x y dx dy v u Q I rl r1 r2 rx ry h => by
 unfold gInB at h
 split at h
 ·rename_i a b
  cases r2.str_inv
  cases r1.str_inv
  rcases hop with ⟨rfl, rfl⟩ | ⟨rfl, rfl⟩
  ·exact op_in_str pins sh σ H _ _ v u Q I rx ry ⟨a, b, rfl, rfl, Dn.now (Q := Q) h rl (.da (.bl _))⟩
  ·exact op_notin_str pins sh σ H _ _ v u Q I rx ry ⟨a, b, rfl, rfl, Dn.now (Q := Q) h rl (.da (.bl _))⟩
 ·obtain ⟨r, ho, hr⟩ := (inS_ok (X := X) neg hop hu).ex
  exact ho pins sh σ H x y v u Q I rx ry (hr as H s x y _ _ Q rl r1 r2 h)
noncomputable abbrev gNotIn := gInB true
theorem o_notin (hu : X.A.units + 65 < cLine) : Op2 X (compareOp .NotIn) gNotIn := in_ok true (.inr ⟨rfl, rfl⟩) hu
noncomputable def gAdd (m : Bool) (dx dy : D) (s : S) : R D := match dx, dy with
 | .int i, .int j => .ok (.int (i + j)) s
 | .bl b, .int j => .ok (.int (b01 b + j)) s
 | .str a, .str b => if a.length + b.length <= sizeLine then .ok (.str (a ++ b)) s else .bad
 | .tup xs, .tup ys => if xs.length + ys.length <= sizeLine then .ok (.tup (xs ++ ys)) s else .bad
 | dx, dy => match toL s dx, toL s dy with
  | some xs, some ys => if xs.length + ys.length <= sizeLine then newL m (xs ++ ys) s else .bad
  | _, _ => .bad
theorem RD.tup_inv {K : PySem.W.Frag} {as : As} {H : Hp} {v : V} {ds : List PyData} (h : RD K as H v (.tup ds)) : ∃ p xs, v = .ref p /\ ¬ as.has p /\ H p = some (.tup xs) /\ TDs as H xs ds := by
 cases h with | da t => cases t with | tup n e r => exact ⟨_, _, rfl, n, e, r⟩
theorem o_add (m : Bool) : Op2 X (binaryOp .Add) (gAdd m) := op2_of fun pins sh σ H as s x y dx dy v u Q I rl r1 r2 rx ry h => by
 unfold gAdd at h
 split at h
 ·rename_i i j
  cases r1.int_inv; cases r2.int_inv
  exact op_add pins sh σ H _ _ v u Q I rx ry ⟨i, j, rfl, rfl, Dn.now (Q := Q) h rl (.da (.int _))⟩
 ·rename_i b j
  cases r1.bl_inv; cases r2.int_inv
  exact op_addL pins sh σ H _ _ v u Q I rx ry ⟨b01 b, j, rfl, rfl, Dn.now (Q := Q) h rl (.da (.int _))⟩
 ·rename_i a b
  split at h
  ·rename_i hz
   cases r1.str_inv; cases r2.str_inv
   exact op_add_str pins sh σ H _ _ v u Q I rx ry ⟨a, b, rfl, rfl, hz, Dn.now (Q := Q) h rl (.da (.str _))⟩
  ·exact h.elim
 ·rename_i xs ys
  split at h
  ·rename_i hz
   obtain ⟨p, vs, rfl, n1, e1, t1⟩ := r1.tup_inv
   obtain ⟨q, ws, rfl, n2, e2, t2⟩ := r2.tup_inv
   refine op_catTA pins sh σ H _ _ v u Q I rx ry ⟨p, q, vs, ws, rfl, rfl, SqT.of e1, SqT.of e2, by rw [t1.length, t2.length]; exact hz, fun e => ?_, fun _ e => ?_, fun _ _ r H' n => ?_⟩
   ·subst e
    cases t1
    exact Dn.now (Q := Q) h rl (.da (.tup n2 e2 t2))
   ·subst e
    cases t2
    rw [List.append_nil] at h
    exact Dn.now (Q := Q) h rl (.da (.tup n1 e1 t1))
   ·exact h (.ref r) as H' (step_new n) (rl.new n) (.da (.tup (fun z => rl.has z n.no) n.at ((t1.append t2).mono (step_new n))))
  ·exact h.elim
 ·split at h
  ·rename_i xs ys e1 e2
   split at h
   ·rename_i hz
    obtain ⟨p, vs, rfl, h1, t1⟩ := toL_ok rl r1 e1
    obtain ⟨q, ws, rfl, h2, t2⟩ := toL_ok rl r2 e2
    exact op_catN pins sh σ H _ _ v u Q I rx ry ⟨p, q, vs, ws, rfl, rfl, h1, h2, by rw [t1.length, t2.length]; exact hz, fun r H' n => newL_ok h rl (t1.append t2) n⟩
   ·exact h.elim
  ·exact h.elim
instance (i j : Int) : Decidable (CMul i j) := by unfold CMul; infer_instance
instance (i j : Int) : Decidable (CDiv i j) := by unfold CDiv; infer_instance
instance (i j : Int) : Decidable (CPow i j) := by unfold CPow; infer_instance
noncomputable def gI2 (C : Int -> Int -> Prop) [∀ i j, Decidable (C i j)] (f : Int -> Int -> Int) (dx dy : D) (s : S) : R D := match dx, dy with
 | .int i, .int j => if C i j then .ok (.int (f i j)) s else .bad
 | _, _ => .bad
theorem i2_ok {op : Operator} {C : Int -> Int -> Prop} [∀ i j, Decidable (C i j)] {f : Int -> Int -> Int} (o : OpR X (binaryOp op) (rI C fun i j => .int (f i j))) : Op2 X (binaryOp op) (gI2 C f) := op2_of fun pins sh σ H as s x y dx dy v u Q I rl r1 r2 rx ry h => by
 unfold gI2 at h
 split at h
 ·rename_i i j
  split at h
  ·rename_i hc
   cases r1.int_inv; cases r2.int_inv
   exact o pins sh σ H _ _ v u Q I rx ry ⟨i, j, rfl, rfl, hc, Dn.now (Q := Q) h rl (.da (.int _))⟩
  ·exact h.elim
 ·exact h.elim
noncomputable def gMul : D -> D -> S -> R D := gI2 CMul fun i j => i * j
noncomputable def gDiv : D -> D -> S -> R D := gI2 CDiv fun i j => i / j
noncomputable def gMod : D -> D -> S -> R D := gI2 (fun _ j => 0 < j) fun i j => i % j
noncomputable def gPow : D -> D -> S -> R D := gI2 CPow fun i j => i ^ j.toNat
theorem o_mul : Op2 X (binaryOp .Mult) gMul := i2_ok op_mul
theorem o_div : Op2 X (binaryOp .FloorDiv) gDiv := i2_ok op_fdiv
theorem o_mod : Op2 X (binaryOp .Mod) gMod := i2_ok op_mod
theorem o_pow : Op2 X (binaryOp .Pow) gPow := i2_ok op_pow
noncomputable def gC2 (f : Int -> Int -> Bool) (dx dy : D) (s : S) : R D := match dx, dy with
 | .int i, .int j => .ok (.bl (f i j)) s
 | _, _ => .bad
theorem c2_ok {op : CmpOp} {f : Int -> Int -> Bool} (o : OpR X (compareOp op) (rI0 fun i j => .bl (f i j))) : Op2 X (compareOp op) (gC2 f) := op2_of fun pins sh σ H as s x y dx dy v u Q I rl r1 r2 rx ry h => by
 unfold gC2 at h
 split at h
 ·rename_i i j
  cases r1.int_inv; cases r2.int_inv
  exact o pins sh σ H _ _ v u Q I rx ry ⟨i, j, rfl, rfl, Dn.now (Q := Q) h rl (.da (.bl _))⟩
 ·exact h.elim
noncomputable def gLe : D -> D -> S -> R D := gC2 fun i j => decide (i <= j)
noncomputable def gGt : D -> D -> S -> R D := gC2 fun i j => decide (j < i)
noncomputable def gGe : D -> D -> S -> R D := gC2 fun i j => decide (j <= i)
theorem o_le : Op2 X (compareOp .LtE) gLe := c2_ok op_le
theorem o_gt : Op2 X (compareOp .Gt) gGt := c2_ok op_gt
theorem o_ge : Op2 X (compareOp .GtE) gGe := c2_ok op_ge
theorem RD.non_inv {K : PySem.W.Frag} {as : As} {H : Hp} {v : V} (h : RD K as H v .non) : v = .non := by
 cases h with | da t => cases t; rfl
noncomputable def fNeg (f : FE) : FE := fun ρ s => (f ρ s).bind fun d s1 => match d with
 | .int i => .ok (.int (-i)) s1
 | _ => .bad
theorem re_neg {a : Expr} {fa : FE} {pos : Pos} (h : RE X a fa) : RE X (.UnaryOp .USub a pos) (fNeg fa) := by
 obtain ⟨t, p, r⟩ := h.ex
 refine ⟨_, pe_un un_neg p, fun as σ H ρ s Q rl en h => ?_⟩
 refine r as σ H ρ s _ rl en (Dn.bind h fun d s1 as1 H1 v st1 rl1 r1 h1 => ?_)
 split at h1
 ·cases r1.int_inv
  exact ⟨_, rfl, Dn.now (Q := Q) h1 rl1 (.da (.int _))⟩
 ·exact h1.elim
end
end PF
namespace PF
open PySem PySem.Spec
open L2
section
variable {X : Cx} {K : PySem.W.Frag} {as : As} {H : Hp}
noncomputable def seqD (s : S) : D -> Option (List D)
 | .lst ds => some (ds.map D.da)
 | .tup ds => some (ds.map D.da)
 | .con ds => some (ds.map D.da)
 | .frz ds => some (ds.map D.da)
 | .ref n => match s[n]? with
  | some (.lst ds) => some ds
  | _ => none
 | _ => none
theorem seq_ok {s : S} {v : V} {d : D} {ds : List D} (rl : Rel K as H s) (r : RD K as H v d) (h : seqD s d = some ds) : ∃ p xs, v = .ref p /\ (SqL K H p xs \/ SqT K H p xs) /\ RDs K as H xs ds := by
 cases r with
 | da t =>
  cases t with
  | lst n e q => cases h; exact ⟨_, _, rfl, .inl (SqL.of e), q.rd⟩
  | tup n e q => cases h; exact ⟨_, _, rfl, .inr (SqT.of e), q.rd⟩
  | _ => cases h
 | con q r => cases h; exact ⟨_, _, rfl, .inr (q H), r.rd⟩
 | frz q r => cases h; exact ⟨_, _, rfl, .inl (q as H (Step.refl _ _).toStep0), r.rd⟩
 | @ref p n l hr =>
  have h : (match s[n]? with | some (O.lst ds) => some ds | _ => none) = some ds := h
  split at h
  ·rename_i ys e
   cases h
   obtain ⟨_, xs, hx, rs⟩ := ref_list rl hr e
   exact ⟨p, xs, rfl, .inl (SqL.of hx), rs⟩
  ·cases h
 | _ => cases h
theorem RDs.atI {xs : List V} {ds : List D} {i : Int} {d : D} (r : RDs K as H xs ds) (h : atI ds i = some d) : ∃ v, atI xs i = some v /\ RD K as H v d := by
 unfold L2.atI at h ⊢
 rw [r.length]
 cases q : ixN ds.length i with
 | none => rw [q] at h; cases h
 | some j =>
  rw [q] at h
  obtain ⟨v, hv, rv⟩ := r.get (show ds[j]? = some d from h)
  exact ⟨v, hv, rv⟩
noncomputable def gIx (dx dy : D) (s : S) : R D := match dx, dy with
 | .str z, .int i => if z.length <= sizeLine then match atI z.cps.toList i with
   | some c => .ok (.str ⟨#[c]⟩) s
   | none => .bad
  else .bad
 | dx, .int i => match seqD s dx with
  | some ds => match atI ds i with
   | some d => .ok d s
   | none => .bad
  | none => .bad
 | _, _ => .bad
theorem ref_ix : Ref2 K (rIx K) gIx := by
 intro as H s x y dx dy Q rl r1 r2 h
 unfold gIx at h
 split at h
 ·rename_i z i
  cases r1.str_inv; cases r2.int_inv
  split at h
  ·rename_i hz
   split at h
   ·rename_i c e
    exact .inr (.inr ⟨z, i, c, rfl, rfl, hz, e, Dn.now (Q := Q) h rl (.da (.str _))⟩)
   ·exact h.elim
  ·exact h.elim
 ·rename_i i _
  cases r2.int_inv
  split at h
  ·rename_i ds e
   split at h
   ·rename_i d e2
    obtain ⟨p, xs, rfl, sq, rs⟩ := seq_ok rl r1 e
    obtain ⟨v, hv, rv⟩ := rs.atI e2
    rcases sq with sq | sq
    ·exact .inl ⟨p, xs, i, v, rfl, rfl, sq, hv, Dn.now (Q := Q) h rl rv⟩
    ·exact .inr (.inl ⟨p, xs, i, v, rfl, rfl, sq, hv, Dn.now (Q := Q) h rl rv⟩)
   ·exact h.elim
  ·exact h.elim
 ·exact h.elim
theorem re_ix {a b : Expr} {fa fb : FE} {pos : Pos} (ha : RE X a fa) (hb : RE X b fb) (hs : PlainIx b := by exact fun _ _ => rfl) : RE X (.Subscript a b pos) (fOp gIx fa fb) := by
 obtain ⟨ta, pa, ra⟩ := ha.ex
 obtain ⟨tb, pb, rb⟩ := hb.ex
 exact ⟨_, pe_ix ix_seq pa pb hs, ref_op ref_ix ra rb⟩
noncomputable def cutL {α : Type} (xs : List α) (lo hi : Option Int) : List α := (xs.drop (HT.sIx xs.length 0 lo)).take (HT.sIx xs.length xs.length hi - HT.sIx xs.length 0 lo)
theorem RDs.cut {xs : List V} {ds : List D} (r : RDs K as H xs ds) (lo hi : Option Int) : RDs K as H (cutV xs lo hi) (cutL ds lo hi) := by
 unfold cutV cutL
 rw [r.length]
 exact (r.drop _).take _
theorem TDs.cut {xs : List V} {ds : List PyData} (r : TDs as H xs ds) (lo hi : Option Int) : TDs as H (cutV xs lo hi) (cutL ds lo hi) := by
 unfold cutV cutL
 rw [r.length]
 exact (r.drop _).take _
noncomputable def cutS (z : Str) (lo hi : Option Int) : Str := if ((Builtin.Str.strSliceIndices lo hi 1 z.length).length == z.length) = true then z else ⟨((Builtin.Str.strSliceIndices lo hi 1 z.length).filterMap (z.cps[·]?)).toArray⟩
noncomputable def rSlX : V -> Option Int -> Option Int -> Hp -> VK -> Prop := fun x lo hi H Q => ∃ z, x = .str z /\ z.length <= sizeLine /\ Q (.str (cutS z lo hi)) H
theorem sl_strX : SlR X rSlX := by
 intro pins s σ H x v vl vu lo hi sl Q I rx hs pl pu h
 obtain ⟨z, rfl, hz, q⟩ := h
 obtain ⟨t, rfl⟩ := rx
 obtain ⟨l, rfl, el⟩ := part_of pl
 obtain ⟨u, rfl, eu⟩ := part_of pu
 refine ⟨"str", _, PySem.F.slot_str_getitem.lookup, rfl, ?_⟩
 have hs' : s.heap.IsSlice sl l u none := by
  obtain ⟨o, ho, hc, hd⟩ := hs
  exact ⟨o, ho, hc, hd⟩
 refine wpAny_getItem_str_slice hs' rfl ?_
 have ep : slicePicked z l u none = Builtin.Str.strSliceIndices lo hi 1 z.length := by
  unfold slicePicked
  rw [el, eu]; rfl
 have hlen : (slicePicked z l u none).length <= z.length := sliceIndices_le _ _ _
 have hfl : ((slicePicked z l u none).filterMap (z.cps[·]?)).length <= z.length := Nat.le_trans (List.length_filterMap_le _ _) hlen
 unfold cutS at q
 rw [← ep] at q
 unfold sliceMade
 split
 ·rename_i c
  rw [if_pos (by simpa using c)] at q
  exact ⟨.str z, H, I, ⟨t, rfl⟩, q⟩
 ·rename_i c
  rw [if_neg (by simpa using c)] at q
  have len : (⟨((slicePicked z l u none).filterMap (z.cps[·]?)).toArray⟩ : Str).length <= z.length := by
   show (((slicePicked z l u none).filterMap (z.cps[·]?)).toArray).size <= z.length
   rw [List.size_toArray]; exact hfl
  exact ⟨Nat.le_trans len hz, .str _, H, I.tok _, ⟨_, rfl⟩, q⟩
noncomputable def gSl (m : Bool) (d : D) (lo hi : Option Int) (s : S) : R D := match d with
 | .str z => if z.length <= sizeLine then .ok (.str (cutS z lo hi)) s else .bad
 | .tup ds => .ok (.tup (cutL ds lo hi)) s
 | .frz ds => newL m (cutL (ds.map D.da) lo hi) s
 | d => match toL s d with
  | some ds => newL m (cutL ds lo hi) s
  | none => .bad
abbrev FO := En -> S -> R (Option Int)
noncomputable def fNo : FO := fun _ s => .ok none s
noncomputable def fSome (f : FE) : FO := fun ρ s => (f ρ s).bind fun d s1 => match d with
 | .int i => .ok (some i) s1
 | _ => .bad
noncomputable def RefO (K : PySem.W.Frag) (t : TO) (f : FO) : Prop := ∀ as σ H ρ s Q, Rel K as H s -> Envs K as H ρ σ -> Dn K (fun _ _ (b a : Option Int) => b = a) as H (f ρ s) Q -> t σ H Q
structure ROp (X : Cx) (e : Option Expr) (f : FO) : Prop where
 ex : ∃ t, PO X e t /\ RefO X.K t f
theorem ro_none : ROp X none fNo := ⟨_, po_none, fun as σ H ρ s Q rl en h => Dn.now (Q := Q) h rl rfl⟩
theorem ro_some {a : Expr} {fa : FE} (h : RE X a fa) : ROp X (some a) (fSome fa) := by
 obtain ⟨t, p, r⟩ := h.ex
 refine ⟨_, po_some p, fun as σ H ρ s Q rl en h => ?_⟩
 refine r as σ H ρ s _ rl en (Dn.bind h fun d s1 as1 H1 v st1 rl1 r1 h1 => ?_)
 split at h1
 ·cases r1.int_inv
  exact ⟨_, rfl, Dn.now (Q := Q) h1 rl1 rfl⟩
 ·exact h1.elim
noncomputable def fSl (m : Bool) (f : FE) (lo hi : FO) : FE := fun ρ s => (f ρ s).bind fun d s1 => (lo ρ s1).bind fun l s2 => (hi ρ s2).bind fun u s3 => gSl m d l u s3
theorem re_slice (m : Bool) {a : Expr} {lo hi : Option Expr} {fa : FE} {fl fu : FO} {p2 pos : Pos} (ha : RE X a fa) (hl : ROp X lo fl) (hu : ROp X hi fu) : RE X (.Subscript a (.Slice lo hi none p2) pos) (fSl m fa fl fu) := by
 obtain ⟨ta, pa, ra⟩ := ha.ex
 obtain ⟨tl, pl, rl'⟩ := hl.ex
 obtain ⟨tu, pu, ru⟩ := hu.ex
 refine ⟨_, pe_slice (sl_strX.or (sl_tupA.or sl_listN)) pa pl pu, fun as σ H ρ s Q rl en h => ?_⟩
 refine ra as σ H ρ s _ rl en (Dn.bind h fun d s1 as1 H1 v st1 rl1 r1 h1 => ?_)
 refine rl' as1 σ H1 ρ s1 _ rl1 (en.mono st1) (Dn.bind h1 fun l s2 as2 H2 l' st2 rl2 e2 h2 => ?_)
 have e2 : l' = l := e2
 subst e2
 refine ru as2 σ H2 ρ s2 _ rl2 ((en.mono st1).mono st2) (Dn.bind h2 fun u s3 as3 H3 u' st3 rl3 e3 h3 => ?_)
 have e3 : u' = u := e3
 subst e3
 have r1 := (r1.mono st2).mono st3
 unfold gSl at h3
 split at h3
 ·cases r1.str_inv
  split at h3
  ·rename_i hz
   exact .inl ⟨_, rfl, hz, Dn.now (Q := Q) h3 rl3 (.da (.str _))⟩
  ·exact h3.elim
 ·obtain ⟨p, xs, rfl, n, e, t⟩ := r1.tup_inv
  refine .inr (.inl ⟨p, xs, rfl, SqT.of e, fun c => ?_, fun q H' nw => ?_⟩)
  ·have t2 := t.cut l' u'
   rw [c] at t2
   exact Dn.now (Q := Q) h3 rl3 (.da (.tup n e t2))
  ·exact h3 (.ref q) as3 H' (step_new nw) (rl3.new nw) (.da (.tup (fun z => rl3.has z nw.no) nw.at ((t.cut l' u').mono (step_new nw))))
 ·cases r1 with
  | frz q t => exact .inr (.inr ⟨_, _, rfl, q as3 H3 (Step.refl _ _).toStep0, fun r H' nw => newL_ok h3 rl3 (t.rd.cut l' u') nw⟩)
 ·split at h3
  ·rename_i ds e
   obtain ⟨p, xs, rfl, hx, rs⟩ := toL_ok rl3 r1 e
   exact .inr (.inr ⟨p, xs, rfl, SqL.of hx, fun r H' nw => newL_ok h3 rl3 (rs.cut l' u') nw⟩)
  ·exact h3.elim
noncomputable def gTru (d : D) (s : S) : R Bool := match d with
 | .non => .ok false s
 | .bl b => .ok b s
 | .int i => .ok (i != 0) s
 | .str z => if z.length <= sizeLine then .ok ((z.length : Int) != 0) s else .bad
 | d => match seqD s d with
  | some ds => .ok (!ds.isEmpty) s
  | none => .bad
noncomputable def fTru (f : FE) : FT := fun ρ s => (f ρ s).bind gTru
theorem RDs.empty {xs : List V} {ds : List D} (r : RDs K as H xs ds) : xs.isEmpty = ds.isEmpty := by cases r <;> rfl
theorem rt_tru {a : Expr} {fa : FE} (h : RE X a fa) (he : ∀ whole, isTrue a X.env whole = (do let v ← whole; standAt a.pos; holding [v] (truthy v)) := by exact fun _ => rfl) : RT X a (fTru fa) := by
 obtain ⟨t, p, r⟩ := h.ex
 refine ⟨_, pt_truth p he, fun as σ H ρ s Q rl en h => ?_⟩
 refine r as σ H ρ s _ rl en (Dn.bind h fun d s1 as1 H1 v st1 rl1 r1 h1 => ?_)
 unfold gTru at h1
 split at h1
 ·cases r1.non_inv; exact ⟨false, rfl, Dn.now (Q := Q) h1 rl1 rfl⟩
 ·cases r1.bl_inv; exact ⟨_, rfl, Dn.now (Q := Q) h1 rl1 rfl⟩
 ·cases r1.int_inv; exact ⟨_, rfl, Dn.now (Q := Q) h1 rl1 rfl⟩
 ·cases r1.str_inv
  split at h1
  ·rename_i hz
   exact ⟨_, ⟨hz, rfl⟩, Dn.now (Q := Q) h1 rl1 rfl⟩
  ·exact h1.elim
 ·split at h1
  ·rename_i ds e
   obtain ⟨p, xs, rfl, sq, rs⟩ := seq_ok rl1 r1 e
   refine ⟨!xs.isEmpty, ?_, ?_⟩
   ·rcases sq with sq | sq
    ·exact .inl ⟨xs, sq, rfl⟩
    ·exact .inr (.inl ⟨xs, sq, rfl⟩)
   ·rw [rs.empty]; exact Dn.now (Q := Q) h1 rl1 rfl
  ·exact h1.elim
structure CB (X : Cx) (f : Value) (g : FF) : Prop where
 ex : ∃ r, CallR X f r /\ ∀ as H s xs ds Q, Rel X.K as H s -> RDs X.K as H xs ds -> Dn X.K (rD X.K) as H (g ds s) Q -> r xs H Q
theorem cb_of {f : Value} {g : FF} (h : ∀ (pins : List (Addr × Obj)) (sh : Shared) (σ : St) (H : Hp) (as : As) (s : S) (xs : List V) (ds : List D) (us : List Value) (Q : VK), Inv X pins σ H sh -> Rel X.K as H s -> RDs X.K as H xs ds -> Vals xs us ->
  Dn X.K (rD X.K) as H (g ds s) Q -> wpAny (model X.prog X.w) X.A (call f us) (EP X pins σ Q) X.xe sh) : CB X f g :=
 ⟨fun xs H Q => ∃ as s ds, Rel X.K as H s /\ RDs X.K as H xs ds /\ Dn X.K (rD X.K) as H (g ds s) Q, fun pins sh σ H xs us Q I r ⟨as, s, ds, rl, rs, q⟩ => h pins sh σ H as s xs ds us Q I rl rs r q, fun as H s xs ds Q rl rs q => ⟨as, s, ds, rl, rs, q⟩⟩
noncomputable def fCB (g : FF) (f : FA) : FE := fun ρ s => (f ρ s).bind g
section
variable {x : Str} {id : String} {g : FF} {f : FA} {e : Expr} {es : List Expr} {p pos : Pos}
theorem ref_cb {r : List V -> Hp -> VK -> Prop} {t : TA} (hr : ∀ as H s xs ds Q, Rel K as H s -> RDs K as H xs ds -> Dn K (rD K) as H (g ds s) Q -> r xs H Q) (h : RefA K t f) : RefE K (tCB r t) (fCB g f) := by
 intro as σ H ρ s Q rl en q
 exact h as σ H ρ s _ rl en (Dn.bind q fun ds s1 as1 H1 vs st1 rl1 r1 h1 => hr as1 H1 s1 vs ds Q rl1 r1 h1)
theorem re_cb (c : CB X (.builtin id) g) (hm : X.mg x = none) (hv : bootBuiltins x = some (.builtin id)) (ha : RA X (e :: es) f) (hg : Gl X x := by rfl) (hn : x ≠ "__name__" := by decide) (hdb : (x == ("__debug__" : Str)) = false := by decide)
  (hs : starEach (e :: es) X.env = (false, eval e X.env) :: starEach es X.env := by rfl) (hpl : (backTo pos (starEach es X.env)).any (·.1) = false := by rfl) : RE X (.Call (.Name x p) (e :: es) [] pos) (fCB g f) := by
 obtain ⟨r, hc, hr⟩ := c.ex
 obtain ⟨t, pa, ra⟩ := ha.ex
 exact ⟨_, pe_callB hc hg hm hv pa hn hdb hs hpl, ref_cb hr ra⟩
theorem re_ct (c : CB X (.type id) g) (hm : X.mg x = none) (hv : bootBuiltins x = some (.type id)) (ha : RA X (e :: es) f) (hg : Gl X x := by rfl) (hn : x ≠ "__name__" := by decide) (hdb : (x == ("__debug__" : Str)) = false := by decide)
  (hs : starEach (e :: es) X.env = (false, eval e X.env) :: starEach es X.env := by rfl) (hpl : (backTo pos (starEach es X.env)).any (·.1) = false := by rfl) : RE X (.Call (.Name x p) (e :: es) [] pos) (fCB g f) := by
 obtain ⟨r, hc, hr⟩ := c.ex
 obtain ⟨t, pa, ra⟩ := ha.ex
 exact ⟨_, pe_callTy hc hg hm hv pa hn hdb hs hpl, ref_cb hr ra⟩
end
noncomputable def gLen (ds : List D) (s : S) : R D := match ds with
 | [.str z] => if z.length <= sizeLine then .ok (.int z.length) s else .bad
 | [d] => match seqD s d with
  | some xs => .ok (.int xs.length) s
  | none => .bad
 | _ => .bad
theorem c_len : CB X (.builtin "len") gLen := cb_of fun pins sh σ H as s xs ds us Q I rl rs ru h => by
 unfold gLen at h
 split at h
 ·obtain ⟨v, rfl, rv⟩ := rs.one
  cases rv.str_inv
  split at h
  ·rename_i hz
   exact call_len_str pins sh σ H _ us Q I ru ⟨_, rfl, hz, Dn.now (Q := Q) h rl (.da (.int _))⟩
  ·exact h.elim
 ·obtain ⟨v, rfl, rv⟩ := rs.one
  split at h
  ·rename_i ys e
   obtain ⟨p, zs, rfl, sq, rz⟩ := seq_ok rl rv e
   refine call_len_seq pins sh σ H _ us Q I ru ⟨p, zs, rfl, sq, ?_⟩
   rw [rz.length]
   exact Dn.now (Q := Q) h rl (.da (.int _))
  ·exact h.elim
 ·exact h.elim
noncomputable def gList (m : Bool) (ds : List D) (s : S) : R D := match ds with
 | [d] => match seqD s d with
  | some xs => newL m xs s
  | none => .bad
 | _ => .bad
theorem c_list (m : Bool) : CB X (.type "list") (gList m) := cb_of fun pins sh σ H as s xs ds us Q I rl rs ru h => by
 unfold gList at h
 split at h
 ·obtain ⟨v, rfl, rv⟩ := rs.one
  split at h
  ·rename_i ys e
   obtain ⟨p, zs, rfl, sq, rz⟩ := seq_ok rl rv e
   exact call_listN pins sh σ H _ us Q I ru ⟨p, zs, rfl, sq, fun r H' nw => newL_ok h rl rz nw⟩
  ·exact h.elim
 ·exact h.elim
noncomputable def gTuple (ds : List D) (s : S) : R D := match ds with
 | [.tup xs] => .ok (.tup xs) s
 | [.frz xs] => .ok (.tup xs) s
 | [d] => match toL s d with
  | some xs => newT xs s
  | none => .bad
 | _ => .bad
theorem c_tuple : CB X (.type "tuple") gTuple := cb_of fun pins sh σ H as s xs ds us Q I rl rs ru h => by
 unfold gTuple at h
 split at h
 ·obtain ⟨v, rfl, rv⟩ := rs.one
  obtain ⟨p, zs, rfl, n, e, t⟩ := rv.tup_inv
  exact call_tupleN pins sh σ H _ us Q I ru ⟨p, zs, rfl, .inr ⟨SqT.of e, Dn.now (Q := Q) h rl (.da (.tup n e t))⟩⟩
 ·obtain ⟨v, rfl, rv⟩ := rs.one
  cases rv with
  | frz q t => exact call_tupleN pins sh σ H _ us Q I ru ⟨_, _, rfl, .inl ⟨q as H (Step.refl _ _).toStep0, fun r H' nw => h (.ref r) as H' (step_new nw) (rl.new nw) (.da (.tup (fun z => rl.has z nw.no) nw.at (t.mono (step_new nw))))⟩⟩
 ·obtain ⟨v, rfl, rv⟩ := rs.one
  split at h
  ·rename_i ys e
   obtain ⟨p, zs, rfl, hx, rz⟩ := toL_ok rl rv e
   exact call_tupleN pins sh σ H _ us Q I ru ⟨p, zs, rfl, .inl ⟨SqL.of hx, fun r H' nw => newT_ok h rl rz nw⟩⟩
  ·exact h.elim
 ·exact h.elim
end
end PF
namespace PF
open PySem PySem.Spec
open L2
section
variable {X : Cx} {K : PySem.W.Frag} {as : As} {H : Hp}
theorem chg_ok {s : S} {p : Addr} {n : Nat} {o : HO} {H' : Hp} {d : D} {v : V} {ys : List V} {es : List D} {Q : VK} (rl : Rel K as H s) (ha : as.ix[n]? = some (some p)) (c : Chg H p (.lst ys) H') (rs : RDs K as H ys es) (rv : RD K as H v d) (h : Dn K (rD K) as H (.ok d (s.set n (.lst es))) Q) : Q v H' := by
 have st := step_chg (mem_as.mpr ⟨n, ha⟩) (fun z => rl.hx p z (mem_as.mpr ⟨n, ha⟩)) c
 exact h v as H' st (rl.chg ha c ⟨ys, c.at, rs.mono st⟩) (rv.mono st)
noncomputable def onL (d : D) (s : S) (k : Nat -> List D -> R D) : R D := match d with
 | .ref n => match s[n]? with
  | some (.lst ds) => k n ds
  | _ => .bad
 | _ => .bad
theorem onL_ok {s : S} {d : D} {v : V} {k : Nat -> List D -> R D} {Q : VK} (rl : Rel K as H s) (r : RD K as H v d) (h : Dn K (rD K) as H (onL d s k) Q) : ∃ p n xs ds, v = .ref p /\ as.ix[n]? = some (some p) /\ H p = some (.lst xs) /\ RDs K as H xs ds /\ Dn K (rD K) as H (k n ds) Q := by
 cases r with
 | @ref p n l hr =>
  have h : Dn K (rD K) as H (match s[n]? with | some (O.lst ds) => k n ds | _ => .bad) Q := h
  split at h
  ·rename_i ds e
   obtain ⟨ha, xs, hx, rs⟩ := ref_list rl hr e
   exact ⟨p, n, xs, ds, rfl, ha, hx, rs, h⟩
  ·exact h.elim
 | _ => exact h.elim
noncomputable def gSet (o i v : D) (s : S) : R D := match i with
 | .int k => onL o s fun n xs => match ixN xs.length k with
  | some j => .ok .non (s.set n (.lst (xs.set j v)))
  | none => .bad
 | _ => .bad
noncomputable def fSetIt (fv fo fi : FE) : FS := fun ρ s => (fv ρ s).bind fun v s1 => (fo ρ s1).bind fun o s2 => (fi ρ s2).bind fun i s3 => (gSet o i v s3).bind fun _ s4 => .ok (.nx ρ) s4
theorem rs_sub {o i e : Expr} {fo fi fv : FE} {pos pos' : Pos} (he : RE X e fv) (ho : RE X o fo) (hi : RE X i fi) (ha : ∀ v, assign (.Subscript o i pos') X.env v = (do
   let ov ← holding [v] (eval o X.env)
   let iv ← holding [v, ov] (eval i X.env)
   standAt pos'
   holding [v, ov, iv] (setItem ov iv v)
   release [v, ov, iv] []) := by intro _; rfl) (hs : swapsWithSole [.Subscript o i pos'] e pos.line X.env = pure false := by rfl) (hw : swappedStores [.Subscript o i pos'] e X.env = pure none := by rfl)
  (h1 : (assignEach [.Subscript o i pos'] X.env).map (·.2) = [assign (.Subscript o i pos') X.env] := by rfl) : RS X (.Assign [.Subscript o i pos'] e pos) (fSetIt fv fo fi) := by
 obtain ⟨te, pe, re⟩ := he.ex
 obtain ⟨to, po, ro⟩ := ho.ex
 obtain ⟨ti, pi, ri⟩ := hi.ex
 refine ⟨_, ps_asg pe (pg_sub po pi set_listN ha) hs hw h1, fun as σ H ρ s D rl en h => ?_⟩
 refine re as σ H ρ s _ rl en (Dn.bind h fun v s1 as1 H1 vv st1 rl1 r1 h1 => ?_)
 refine ro as1 σ H1 ρ s1 _ rl1 (en.mono st1) (Dn.bind h1 fun o s2 as2 H2 ov st2 rl2 r2 h2 => ?_)
 refine ri as2 σ H2 ρ s2 _ rl2 ((en.mono st1).mono st2) (Dn.bind h2 fun i s3 as3 H3 iv st3 rl3 r3 h3 => ?_)
 have en3 := ((en.mono st1).mono st2).mono st3
 have h3 : Dn X.K (rD X.K) as3 H3 (gSet o i v s3) (fun _ H' => D.nx σ H') := Dn.bind h3 fun d s4 as4 H4 vv st4 rl4 r4 h4 => Dn.now (b := FV.nx σ) h4 rl4 (.nx (en3.mono st4))
 unfold gSet at h3
 split at h3
 ·cases r3.int_inv
  obtain ⟨p, n, xs, ds, rfl, ha, hx, rs, h3⟩ := onL_ok rl3 (r2.mono st3) h3
  split at h3
  ·rename_i j e
   refine ⟨p, xs, _, j, rfl, rfl, hx, by rw [rs.length]; exact e, fun H' c => ?_⟩
   exact chg_ok (v := .non) (o := .lst []) rl3 ha c (rs.set j ((r1.mono st2).mono st3)) (.da .non) h3
  ·exact h3.elim
 ·exact h3.elim
end
end PF
namespace PF
open PySem PySem.Spec
open L2
theorem u64 {A : Around} {k : Nat} (hr : Room k A) : A.units + 64 < cLine := by have := hr.un; omega
theorem u65 {A : Around} {k : Nat} (hr : Room k A) : A.units + 65 < cLine := by have := hr.un; omega
end PF
namespace PF
open PySem PySem.Spec
open L2
section
variable {s : S} {m : Bool} {n : Nat} {i j : Int} {x y : Str} {b : Bool} {xs ys : List PyData} {ds es : List D} {d e : D} {ρ : En} {Q : D -> S -> Prop}
theorem sizeLine_eq' : sizeLine = 16777216 := sizeLine_eq
@[simp] theorem gAdd_int : gAdd m (.int i) (.int j) s = .ok (.int (i + j)) s := (rfl)
theorem gMul_int (h : (-(2 ^ 64) < i /\ i < 2 ^ 64) \/ (-(2 ^ 64) < j /\ j < 2 ^ 64)) : gMul (.int i) (.int j) s = .ok (.int (i * j)) s := if_pos h
theorem gDiv_int (h : 0 < j) (h2 : j < 1073741824) : gDiv (.int i) (.int j) s = .ok (.int (i / j)) s := if_pos ⟨h, h2⟩
theorem gMod_int (h : 0 < j) : gMod (.int i) (.int j) s = .ok (.int (i % j)) s := if_pos h
theorem gPow_int (h : 0 <= j) (h1 : j <= 1000000) (h2 : i.natAbs < 2 ^ 64) : gPow (.int i) (.int j) s = .ok (.int (i ^ j.toNat)) s := if_pos ⟨h, h1, h2⟩
@[simp] theorem gLe_int : gLe (.int i) (.int j) s = .ok (.bl (decide (i <= j))) s := (rfl)
@[simp] theorem gGt_int : gGt (.int i) (.int j) s = .ok (.bl (decide (j < i))) s := (rfl)
@[simp] theorem gGe_int : gGe (.int i) (.int j) s = .ok (.bl (decide (j <= i))) s := (rfl)
theorem beq_strs (x y : Str) : PyData.eqv (.str x) (.str y) = decide (x = y) := by
 show (x == y) = _
 (rw [Bool.eq_iff_iff, beq_iff_eq, decide_eq_true_eq])
theorem gEq_da {p q : PyData} (h1 : okD p = true) (h2 : okD q = true) : gEq (.da p) (.da q) s = .ok (.bl (PyData.eqv p q)) s := by
 have e : gEqD (.da p) (.da q) s = .ok (.bl (PyData.eqv p q)) s := if_pos ⟨h1, h2⟩
 cases p <;> cases q <;> first | exact e | (rw [beq_strs]; rfl)
theorem gNe_da {p q : PyData} (h1 : okD p = true) (h2 : okD q = true) : gNe (.da p) (.da q) s = .ok (.bl (!PyData.eqv p q)) s := by
 have e : gNeD (.da p) (.da q) s = .ok (.bl (!PyData.eqv p q)) s := if_pos ⟨h1, h2⟩
 cases p <;> cases q <;> first | exact e | (rw [beq_strs]; rfl)
theorem gIx_ref {k : Nat} (h : s[n]? = some (.lst ds)) (h2 : ds[k]? = some d) : gIx (.ref n) (.int (k : Int)) s = .ok d s := by
 show (match (match s[n]? with | some (O.lst ds) => some ds | _ => none) with | some ds => (match atI ds (k : Int) with | some d => R.ok d s | none => .bad) | none => .bad) = _
 rw [h]
 show (match atI ds (k : Int) with | some d => R.ok d s | none => .bad) = _
 rw [atI_nat h2]
theorem gIx_lst {k : Nat} {p : PyData} (h2 : xs[k]? = some p) : gIx (.lst xs) (.int (k : Int)) s = .ok (.da p) s := by
 show (match atI (xs.map D.da) (k : Int) with | some d => R.ok d s | none => .bad) = _
 rw [atI_nat (v := D.da p) (by rw [List.getElem?_map, h2]; rfl)]
theorem gSet_ref {k : Nat} (h : s[n]? = some (.lst ds)) (h2 : k < ds.length) : gSet (.ref n) (.int (k : Int)) d s = .ok .non (s.set n (.lst (ds.set k d))) := by
 show (match s[n]? with | some (O.lst xs) => (match ixN xs.length (k : Int) with | some j => R.ok D.non (s.set n (.lst (xs.set j d))) | none => .bad) | _ => .bad) = _
 rw [h]
 have : ixN ds.length (k : Int) = some k := by
  unfold ixN
  rw [if_pos (by omega), if_pos (by omega)]
  rfl
 show (match ixN ds.length (k : Int) with | some j => R.ok D.non (s.set n (.lst (ds.set j d))) | none => .bad) = _
 rw [this]
noncomputable def kOp1 (g : D -> D -> S -> R D) (fb : FE) (ρ : En) (x : D) (s : S) : R D := (fb ρ s).bind fun y s2 => g x y s2
noncomputable def kOp2 (g : D -> D -> S -> R D) (x y : D) (s : S) : R D := g x y s
@[simp] theorem e_op {g : D -> D -> S -> R D} {fa fb : FE} : fOp g fa fb ρ s = (fa ρ s).bind (kOp1 g fb ρ) := (rfl)
@[simp] theorem e_op1 {g : D -> D -> S -> R D} {fb : FE} : kOp1 g fb ρ d s = (fb ρ s).bind (kOp2 g d) := (rfl)
@[simp] theorem e_op2 {g : D -> D -> S -> R D} : kOp2 g d e s = g d e s := (rfl)
@[simp] theorem e_c : fC d ρ s = .ok d s := (rfl)
@[simp] theorem e_var0 {r : En} : fVar 0 (some d :: r) s = .ok d s := (rfl)
@[simp] theorem e_var1 {r : En} {x0 : Option D} : fVar 1 (x0 :: some d :: r) s = .ok d s := (rfl)
@[simp] theorem e_var2 {r : En} {x0 x1 : Option D} : fVar 2 (x0 :: x1 :: some d :: r) s = .ok d s := (rfl)
@[simp] theorem e_var3 {r : En} {x0 x1 x2 : Option D} : fVar 3 (x0 :: x1 :: x2 :: some d :: r) s = .ok d s := (rfl)
@[simp] theorem e_var4 {r : En} {x0 x1 x2 x3 : Option D} : fVar 4 (x0 :: x1 :: x2 :: x3 :: some d :: r) s = .ok d s := (rfl)
noncomputable def kSeq (g : FS) (fl : Fl) (s : S) : R Fl := match fl with
 | .nx ρ1 => g ρ1 s
 | fl => .ok fl s
@[simp] theorem e_seq {f g : FS} : fSeq f g ρ s = (f ρ s).bind (kSeq g) := (rfl)
@[simp] theorem e_seqn {g : FS} : kSeq g (.nx ρ) s = g ρ s := (rfl)
@[simp] theorem e_seqr {g : FS} : kSeq g (.rt d) s = .ok (.rt d) s := (rfl)
noncomputable def kRet (d : D) (s : S) : R Fl := .ok (.rt d) s
@[simp] theorem e_ret {f : FE} : fRet f ρ s = (f ρ s).bind kRet := (rfl)
@[simp] theorem e_ret1 : kRet d s = .ok (.rt d) s := (rfl)
@[simp] theorem e_next : fNext ρ s = .ok (.nx ρ) s := (rfl)
noncomputable def kDrop (ρ : En) (_ : D) (s : S) : R Fl := .ok (.nx ρ) s
@[simp] theorem e_drop1 : kDrop ρ d s = .ok (.nx ρ) s := (rfl)
noncomputable def kSet (i : Nat) (ρ : En) (d : D) (s : S) : R Fl := .ok (.nx (ρ.set i (some d))) s
@[simp] theorem e_set {i : Nat} {f : FE} : fSet i f ρ s = (f ρ s).bind (kSet i ρ) := (rfl)
@[simp] theorem e_set1 {i : Nat} : kSet i ρ d s = .ok (.nx (ρ.set i (some d))) s := (rfl)
noncomputable def kIfS (f g : FS) (ρ : En) (k : Bool) (s : S) : R Fl := if k = true then f ρ s else g ρ s
@[simp] theorem e_ifS {c : FT} {f g : FS} : fIfS c f g ρ s = (c ρ s).bind (kIfS f g ρ) := (rfl)
@[simp] theorem e_ifT {f g : FS} : kIfS f g ρ true s = f ρ s := (rfl)
@[simp] theorem e_ifF {f g : FS} : kIfS f g ρ false s = g ρ s := (rfl)
noncomputable def kTest (d : D) (s : S) : R Bool := match d with
 | .bl k => .ok k s
 | _ => .bad
@[simp] theorem e_test {f : FE} : fTest f ρ s = (f ρ s).bind kTest := (rfl)
@[simp] theorem e_test1 : kTest (.bl b) s = .ok b s := (rfl)
noncomputable def kAndT (g : FT) (ρ : En) (c : Bool) (s : S) : R Bool := if c = true then g ρ s else .ok false s
@[simp] theorem e_andT {f g : FT} : fAndT f g ρ s = (f ρ s).bind (kAndT g ρ) := (rfl)
@[simp] theorem e_andT1 {g : FT} : kAndT g ρ true s = g ρ s := (rfl)
@[simp] theorem e_andT0 {g : FT} : kAndT g ρ false s = .ok false s := (rfl)
noncomputable def kCons1 (g : FA) (ρ : En) (x : D) (s : S) : R (List D) := (g ρ s).bind fun xs s2 => .ok (x :: xs) s2
noncomputable def kCons2 (x : D) (xs : List D) (s : S) : R (List D) := .ok (x :: xs) s
@[simp] theorem e_nil : fNil ρ s = .ok [] s := (rfl)
@[simp] theorem e_cons {f : FE} {g : FA} : fCons f g ρ s = (f ρ s).bind (kCons1 g ρ) := (rfl)
@[simp] theorem e_cons1 {g : FA} : kCons1 g ρ d s = (g ρ s).bind (kCons2 d) := (rfl)
@[simp] theorem e_cons2 : kCons2 d ds s = .ok (d :: ds) s := (rfl)
noncomputable def kLst (m : Bool) (ds : List D) (s : S) : R D := if ds.length <= sizeLine then newL m ds s else .bad
@[simp] theorem e_lst {f : FA} : fLst m f ρ s = (f ρ s).bind (kLst m) := (rfl)
@[simp] theorem lst0 : kLst false [] s = .ok (.lst []) s := (rfl)
noncomputable def kSl1 (m : Bool) (lo hi : FO) (ρ : En) (d : D) (s : S) : R D := (lo ρ s).bind fun l s2 => (hi ρ s2).bind fun u s3 => gSl m d l u s3
noncomputable def kSl2 (m : Bool) (hi : FO) (ρ : En) (d : D) (l : Option Int) (s : S) : R D := (hi ρ s).bind fun u s3 => gSl m d l u s3
noncomputable def kSl3 (m : Bool) (d : D) (l u : Option Int) (s : S) : R D := gSl m d l u s
@[simp] theorem e_sl {f : FE} {lo hi : FO} : fSl m f lo hi ρ s = (f ρ s).bind (kSl1 m lo hi ρ) := (rfl)
@[simp] theorem e_sl1 {lo hi : FO} : kSl1 m lo hi ρ d s = (lo ρ s).bind (kSl2 m hi ρ d) := (rfl)
@[simp] theorem e_sl2 {hi : FO} {l : Option Int} : kSl2 m hi ρ d l s = (hi ρ s).bind (kSl3 m d l) := (rfl)
@[simp] theorem e_sl3 {l u : Option Int} : kSl3 m d l u s = gSl m d l u s := (rfl)
@[simp] theorem e_no : fNo ρ s = .ok none s := (rfl)
noncomputable def kSome (d : D) (s : S) : R (Option Int) := match d with
 | .int i => .ok (some i) s
 | _ => .bad
@[simp] theorem e_some {f : FE} : fSome f ρ s = (f ρ s).bind kSome := (rfl)
@[simp] theorem e_some1 : kSome (.int i) s = .ok (some i) s := (rfl)
@[simp] theorem e_cb {g : FF} {f : FA} : fCB g f ρ s = (f ρ s).bind g := (rfl)
@[simp] theorem len_lst : gLen [.lst xs] s = .ok (.int xs.length) s := by show R.ok (D.int (xs.map D.da).length) s = _; rw [List.length_map]
theorem len_str (h : x.length <= 16777216) : gLen [.str x] s = .ok (.int x.length) s := if_pos (by rw [sizeLine_eq']; exact h)
@[simp] theorem list_lst : gList false [.lst xs] s = .ok (.lst xs) s := by
 show (match pures (xs.map D.da) with | some xs => R.ok (D.lst xs) s | none => .bad) = _
 rw [pures_da]
@[simp] theorem tuple_lst : gTuple [.lst xs] s = .ok (.tup xs) s := by
 show (match pures (xs.map D.da) with | some xs => R.ok (D.tup xs) s | none => .bad) = _
 rw [pures_da]
theorem cutL_map {α β : Type} (f : α -> β) (l : List α) (lo hi : Option Int) : cutL (l.map f) lo hi = (cutL l lo hi).map f := by
 unfold cutL
 rw [List.length_map, List.map_take, List.map_drop]
@[simp] theorem sl_frz {lo hi : Option Int} : gSl false (.frz xs) lo hi s = .ok (.lst (cutL xs lo hi)) s := by
 show (match pures (cutL (xs.map D.da) lo hi) with | some xs => R.ok (D.lst xs) s | none => .bad) = _
 rw [cutL_map, pures_da]
noncomputable def kBody (fl : Fl) (s : S) : R D := match fl with
 | .rt d => .ok d s
 | .nx _ => .ok .non s
 | _ => .bad
@[simp] theorem e_bodyr : kBody (.rt d) s = .ok d s := (rfl)
noncomputable def kSetIt1 (fo fi : FE) (ρ : En) (v : D) (s : S) : R Fl := (fo ρ s).bind fun o s2 => (fi ρ s2).bind fun i s3 => (gSet o i v s3).bind fun _ s4 => .ok (.nx ρ) s4
noncomputable def kSetIt2 (fi : FE) (ρ : En) (v o : D) (s : S) : R Fl := (fi ρ s).bind fun i s3 => (gSet o i v s3).bind fun _ s4 => .ok (.nx ρ) s4
noncomputable def kSetIt3 (ρ : En) (v o i : D) (s : S) : R Fl := (gSet o i v s).bind fun _ s4 => .ok (.nx ρ) s4
@[simp] theorem e_setIt {fv fo fi : FE} : fSetIt fv fo fi ρ s = (fv ρ s).bind (kSetIt1 fo fi ρ) := (rfl)
@[simp] theorem e_setIt1 {fo fi : FE} : kSetIt1 fo fi ρ d s = (fo ρ s).bind (kSetIt2 fi ρ d) := (rfl)
@[simp] theorem e_setIt2 {fi : FE} : kSetIt2 fi ρ d e s = (fi ρ s).bind (kSetIt3 ρ d e) := (rfl)
@[simp] theorem e_setIt3 {o : D} : kSetIt3 ρ d e o s = (gSet e o d s).bind (kDrop ρ) := (rfl)
theorem rng_ok (h : -(2 ^ 62) <= j) (h2 : j < 2 ^ 62) : gRng [.int j] s = .ok (rngD 0 j.toNat, none) s := if_pos ⟨h, h2⟩
noncomputable def kLoop (g : Tg) (fb : FS) (p : Wk) (r : List D) (fl : Fl) (s : S) : R Fl := match fl with
 | .nx ρ2 => chk p s (loopF g fb p r ρ2 s)
 | .ct ρ2 => chk p s (loopF g fb p r ρ2 s)
 | .bk ρ2 => .ok (.nx ρ2) s
 | .rt d => .ok (.rt d) s
theorem loop_cons {g : Tg} {fb : FS} {p : Wk} {r : List D} {ρ1 : En} (h : setD g d ρ = some ρ1) : loopF g fb p (d :: r) ρ s = (fb ρ1 s).bind (kLoop g fb p r) := by
 rw [loopF, h]; rfl
@[simp] theorem loop_nx {g : Tg} {fb : FS} {r : List D} : kLoop g fb (ds, none) r (.nx ρ) s = loopF g fb (ds, none) r ρ s := chk_none
noncomputable def kComp1 (g : Tg) (ft : FT) (fe : FE) (ρ0 : En) (p : Wk) (r : List D) (ρ1 : En) (b : Bool) (s2 : S) : R (List D) := if b = true then (fe ρ1 s2).bind fun x s3 => chk p s3 ((compF g ft fe ρ0 p r s3).bind fun xs s4 => .ok (x :: xs) s4) else chk p s2 (compF g ft fe ρ0 p r s2)
noncomputable def kComp2 (g : Tg) (ft : FT) (fe : FE) (ρ0 : En) (p : Wk) (r : List D) (x : D) (s3 : S) : R (List D) := chk p s3 ((compF g ft fe ρ0 p r s3).bind fun xs s4 => .ok (x :: xs) s4)
theorem comp_cons {g : Tg} {ft : FT} {fe : FE} {p : Wk} {r : List D} {ρ1 : En} (h : setD g d ρ = some ρ1) : compF g ft fe ρ p (d :: r) s = (ft ρ1 s).bind (kComp1 g ft fe ρ p r ρ1) := by
 rw [compF, h]; rfl
@[simp] theorem comp_t {g : Tg} {ft : FT} {fe : FE} {p : Wk} {r : List D} {ρ1 : En} : kComp1 g ft fe ρ p r ρ1 true s = (fe ρ1 s).bind (kComp2 g ft fe ρ p r) := (rfl)
@[simp] theorem comp_x {g : Tg} {ft : FT} {fe : FE} {r : List D} : kComp2 g ft fe ρ (ds, none) r d s = (compF g ft fe ρ (ds, none) r s).bind (kCons2 d) := chk_none
theorem lstN4 {a0 a1 a2 a3 : D} : kLst true [a0, a1, a2, a3] s = .ok (.ref s.length) (s ++ [.lst [a0, a1, a2, a3]]) := (rfl)
end
@[simp] theorem R.bind_ok' {α β : Type} (a : α) (s : S) (f : α -> S -> R β) : (R.ok a s).bind f = f a s := (rfl)
@[simp] theorem R.W_ok' {α : Type} (a : α) (s : S) (Q : α -> S -> Prop) : (R.ok a s).W Q = Q a s := (rfl)
end PF
namespace PF
open PySem PySem.Spec
open L2
structure Ext (s s' : S) : Prop where
 ex : ∃ g, s' = s ++ g
theorem Ext.add (s g : S) : Ext s (s ++ g) := ⟨g, rfl⟩
theorem Ext.get {s s' : S} (h : Ext s s') {k : Nat} {o : O} (e : s[k]? = some o) : s'[k]? = some o := by
 obtain ⟨g, rfl⟩ := h.ex
 rw [List.getElem?_append_left (List.getElem?_eq_some_iff.mp e).1]; exact e
structure Same (n : Nat) (s s' : S) : Prop where
 len : s.length <= s'.length
 get : ∀ k, k ≠ n -> k < s.length -> s'[k]? = s[k]?
theorem same_set {n : Nat} {s : S} {o : O} : Same n s (s.set n o) := ⟨by simp, fun k hk hl => List.getElem?_set_ne (Ne.symm hk)⟩
theorem set_self {α : Type} {s : List α} {n : Nat} {o : α} (e : s[n]? = some o) : s.set n o = s := by
 apply List.ext_getElem?
 intro i
 by_cases z : n = i
 ·subst z
  have hl := (List.getElem?_eq_some_iff.mp e).1
  rw [List.getElem?_set_self hl, e]
 ·rw [List.getElem?_set_ne z]
end PF
namespace PF
open PySem PySem.Spec
open L2
open PyProof.Rows (envOfC)
section
variable {P : Program} {w : World} {K : PySem.W.Frag} {mg : Str -> Option Value} {base : Heap} {x : Str} {st : Stmt} {N ps : List Str} {k : Nat}
theorem fnF {f : Addr} {fd : FuncData} (F : Fun K x x st f fd) (S : FnScope N ps (defScope st)) {m n : Nat} {fb : FS} (hm : N.length = m) (hn : ps.length = n)
  (hbody : ∀ (f : Addr) (cdv : Value) (A : Around) (outer : List Env) (s : Shared) (H : Hp) (E : XK), Room k (A.deeper (envOfC x (defScope st) s.heap.objs.size f cdv)) ->
   RSs (cxOf CX0 P w K mg base N x (defScope st) f cdv A outer s H E).nox (defBody st) fb) : FnOk P w K mg base CX0 (k + 1) f fd ps (spF K n (bodyF m fb)) := by
 refine F.ok S (fun vs H Q E h => by rw [hn]; exact h.1) fun cdv A outer s H vs Q E hr h => ?_
 obtain ⟨hv, as, ds, s', rl, rs, h⟩ := h
 obtain ⟨t, p, r⟩ := (hbody f cdv A outer s H E hr).ex
 refine ⟨t, p, ?_⟩
 have en : Envs K as H (ds.map some ++ List.replicate (m - ds.length) none) (L2.start N vs) := by rw [← hm]; exact start_envs rs
 refine r as _ H _ s' _ rl en (Dn.bind h fun fl s1 as1 H1 fv st1 rl1 r1 h1 => ?_)
 cases r1 with
 | nx e => exact Dn.now (Q := Q) h1 rl1 (.da .non)
 | rt e => exact Dn.now (Q := Q) h1 rl1 e
 | bk e => exact h1.elim
 | ct e => exact h1.elim
theorem law_of {f : Addr} {fd : FuncData} {F : FF} (h : FnOk P w K mg base CX0 k f fd ps (spF K 1 F)) (ht : ∀ ns : List Int, ns.length <= 63 -> (F [.frz (ns.map PyData.int)] []).W fun d _ => d = .bl true) : FnOk P w K mg base CX0 k f fd ps (spLaw K) := by
 refine h.imp fun vs H Q E q => ?_
 obtain ⟨a, ns, rfl, hS, hl, hq⟩ := q
 have R0 : Rel K ⟨[], []⟩ H [] := ⟨rfl, fun i j p e => by simp at e, fun n p o e => by simp at e, fun n o e => by simp at e, fun p hp => by simp at hp, fun p hp => by simp at hp⟩
 refine ⟨rfl, ⟨[], []⟩, [.frz (ns.map PyData.int)], [], R0, .cons (.frz (fun as' H' st => ?_) (TDs.ints ns)) .nil, ?_⟩
 ·exact L2.Same.seq (fun b o hb => st.keep b o (by simp [As.has]) hb) hS
 ·have t := ht ns hl
  cases hr : F [.frz (ns.map PyData.int)] [] with
  | ok d s =>
   rw [hr] at t
   intro b as' H' st rl rb
   have : d = .bl true := t
   subst this
   cases rb with
   | da z => cases z; exact hq _
  | bad => rw [hr] at t; exact t
end
end PF
namespace KS
open PySem PySem.W PyProof.Rows
noncomputable def run {α : Type} (lt : Nat -> Nat -> Bool) : KasT α -> α
 | .ret a => a
 | .ask i j k => run lt (k (lt i j))
end KS
namespace KS
open PySem PySem.W PyProof.Rows
section
variable {lt : Nat -> Nat -> Bool}
theorem gd (p : Array Nat) (k : Nat) : p.getD k 0 = (p[k]?).getD 0 := Array.getD_eq_getD_getElem? ..
end
end KS
namespace L2
open PySem PySem.Spec PyProof.Rows
section
variable {P : Program} {w : World} {H : Hp} {h : Heap} {a : Addr}
mutual
theorem KD.reads (ok : HOk P w H h) : ∀ {v : V} {d : PyData} {u : Value}, KD H v d -> RelV v u -> ∃ bs, Reads h u d bs
 | _, _, u, .non, r => by cases (show u = Value.none from r); exact ⟨_, .none⟩
 | _, _, u, .int i, r => by obtain ⟨t, e⟩ := (show ∃ t, u = Value.int i t from r); subst e; exact ⟨_, .int i t⟩
 | _, _, u, .str x, r => by obtain ⟨t, e⟩ := (show ∃ t, u = Value.str x t from r); subst e; exact ⟨_, .str x t⟩
 | _, _, u, .tup (p := b) (xs := xs) e q, r => by
  cases (show u = Value.ref b from r)
  obtain ⟨z, its, rv, p⟩ := (show ObjOk P w H h b (.tup xs) from ok b _ e)
  obtain ⟨o, h1, h2, k, h3⟩ := p.tup
  obtain ⟨bs, ra⟩ := KDs.reads ok q rv
  exact ⟨_, .tuple h1 h2 h3 ra⟩
theorem KDs.reads (ok : HOk P w H h) : ∀ {vs : List V} {ds : List PyData} {us : List Value}, KDs H vs ds -> Vals vs us -> ∃ bs, ReadsAll h us ds bs
 | _, _, _, .nil, r => by cases r; exact ⟨_, .nil⟩
 | _, _, _, .cons a b, r => by
  cases r with
  | cons r1 r2 =>
   obtain ⟨as, h1⟩ := KD.reads ok a r1
   obtain ⟨bs, h2⟩ := KDs.reads ok b r2
   exact ⟨_, .cons h1 h2⟩
end
theorem kd_is (ok : HOk P w H h) {b : Addr} {k : PyData} (hk : PF.keyOk k = true) (e : KD H (.ref b) k) : (PF.dataKind P w).is h k b := ⟨hk, e.reads ok rfl⟩
abbrev KE (H : Hp) : List (PyData × V) -> List (PyData × Addr × Value) -> Prop := Paired fun p q => p.1 = q.1 /\ (PF.keyOk p.1 = true /\ KD H (.ref q.2.1) p.1) /\ RelV p.2 q.2.2
theorem KE.val {kvs : List (PyData × V)} {xs : List (PyData × Addr × Value)} (r : KE H kvs xs) (k : PyData) : RelO (valV kvs k) ((atKey xs k).map (·.2)) := by
 induction r with
 | nil => exact True.intro
 | @cons p q ps qs hh t ih =>
  by_cases e : p.1 = k
  ·rw [valV_pos e, show atKey (q :: qs) k = some q.2 by simp [atKey, List.find?_cons, hh.1.symm.trans e]]
   exact hh.2.2
  ·have e' : ¬ q.1 = k := fun z => e (hh.1.trans z)
   rw [valV_neg e, show atKey (q :: qs) k = atKey qs k by simp [atKey, List.find?_cons, e']]
   exact ih
theorem KE.put {kvs : List (PyData × V)} {xs : List (PyData × Addr × Value)} (r : KE H kvs xs) {k : PyData} {b : Addr} {y : V} {u : Value} (hk : PF.keyOk k = true) (hb : KD H (.ref b) k) (ry : RelV y u) : KE H (putK kvs k y) (storedH xs k b u) := by
 have e : (kvs.any fun kv => decide (kv.1 = k)) = (atKey xs k).isSome := by rw [valV_any, (r.val k).isSome_eq, Option.isSome_map]
 unfold putK storedH
 rw [e]
 by_cases q : (atKey xs k).isSome = true
 ·rw [if_pos q, if_pos q]
  clear e q
  induction r with
  | nil => exact .nil
  | @cons p q ps qs hh t ih =>
   rw [List.map_cons, List.map_cons]
   refine .cons ?_ ih
   unfold putAt
   by_cases e : p.1 = k
   ·rw [if_pos e, if_pos (hh.1.symm.trans e)]; exact ⟨hh.1, hh.2.1, ry⟩
   ·rw [if_neg e, if_neg fun z => e (hh.1.trans z)]; exact hh
 ·rw [if_neg q, if_neg q]; exact Paired.snoc r ⟨rfl, ⟨hk, hb⟩, ry⟩
theorem dd_of {kvs : List (PyData × V)} (ok : HOk P w H h) (e : H a = some (.dD kvs)) : kvs.length <= sizeLine /\ (a == sysModules) = false /\ ∃ xs, KE H kvs xs /\ h.DictOfH (PF.dataKind P w) a xs := by
 obtain ⟨z, y, xs, r, o, es, ep, h1, h2, h3, h4, h5⟩ := (show ObjOk P w H h a (.dD kvs) from ok a _ e)
 refine ⟨z, y, xs, r, o, es, ep, h1, h2, h3, h4, ?_, h5⟩
 clear h3 h4 h5 z e
 induction r with
 | nil => intro x hx; exact nomatch hx
 | @cons p q ps qs hq t ih =>
  intro x hx
  rcases List.mem_cons.mp hx with e | hx
  ·subst e
   exact kd_is ok (hq.1 ▸ hq.2.1.1) (hq.1 ▸ hq.2.1.2)
  ·exact ih x hx
theorem dk_nil (ok : HOk P w H h) (e : H a = some (.dK [])) : (a == sysModules) = false /\ h.DictOfH (PF.dataKind P w) a [] := by
 obtain ⟨z, y, vs, r, o, es, ep, h1, h2, h3, h4, h5, h6⟩ := (show ObjOk P w H h a (.dK []) from ok a _ e)
 cases r
 have : es.toList = [] := by
  cases q : es.toList with
  | nil => rfl
  | cons x y => rw [q] at h5; cases h5
 exact ⟨y, o, es, ep, h1, h2, h3, by rw [this]; rfl, (fun x hx => by cases hx), List.nodup_nil⟩
end
section
variable {X : Cx} {pins : List (Addr × Obj)} {σ : St} {H : Hp} {s : Shared} {a b : Addr} {v : V} {r : Value} {k : PyData} {kvs : List (PyData × V)} {A : Around} {E : Value -> Shared -> Prop}
noncomputable def DD (H : Hp) (a : Addr) (kvs : List (PyData × V)) : Prop := H a = some (.dD kvs) \/ (H a = some (.dK []) /\ kvs = [])
theorem DD.rd {P : Program} {w : World} {h : Heap} (ok : HOk P w H h) (e : DD H a kvs) : kvs.length <= sizeLine /\ (a == sysModules) = false /\ ∃ xs, KE H kvs xs /\ h.DictOfH (PF.dataKind P w) a xs := by
 rcases e with e | ⟨e, rfl⟩
 ·exact dd_of ok e
 ·exact ⟨Nat.zero_le _, (dk_nil ok e).1, [], .nil, (dk_nil ok e).2⟩
theorem DD.mut (e : DD H a kvs) : Mut (H a) := by
 rcases e with e | ⟨e, rfl⟩ <;> (rw [e]; exact True.intro)
theorem dd_put {P : Program} {w : World} {h' : Heap} {xs : List (PyData × Addr × Value)} {H' : Hp} (z : kvs.length <= sizeLine) (hd : (a == sysModules) = false) (rel : KE H kvs xs) (ht : ∀ b ys, H b = some (.tup ys) -> H' b = some (.tup ys)) (dd : h'.DictOfH (PF.dataKind P w) a xs) : ObjOk P w H' h' a (.dD kvs) := by
 obtain ⟨o, es, ep, h1, h2, h3, h4, h5, h6⟩ := dd
 exact ⟨z, hd, xs, Paired.mapP rel fun p q y => ⟨y.1, ⟨y.2.1.1, y.2.1.2.mono ht⟩, y.2.2⟩, o, es, ep, h1, h2, h3, h4, h6⟩
end
end L2
namespace PF
open PySem PySem.Spec
open L2
section
variable {K : PySem.W.Frag} {as : As} {H : Hp}
mutual
theorem TD.kd : ∀ {v : V} {d : PyData}, TD as H v d -> plD d = true -> KD H v d
 | _, _, .non, _ => .non
 | _, _, .int i, _ => .int i
 | _, _, .str x, _ => .str x
 | _, _, .tup n e r, h => .tup e (TDs.kd r (by rw [← plD_tup]; exact h))
 | _, _, .bl b, h => by simp [plD] at h
 | _, _, .lst _ _ _, h => by simp [plD] at h
 | _, _, .dct _ _, h => by simp [plD] at h
 | _, _, .dc1 _ _ _, h => by simp [plD] at h
theorem TDs.kd : ∀ {v : List V} {d : List PyData}, TDs as H v d -> plDs d = true -> KDs H v d
 | _, _, .nil, _ => .nil
 | _, _, .cons a r, h => by
  rw [plDs_cons, Bool.and_eq_true] at h
  exact .cons (TD.kd a h.1) (TDs.kd r h.2)
end
noncomputable def dPut {α : Type} (kvs : List (PyData × α)) (k : PyData) (v : α) : List (PyData × α) :=
 if (kvs.any fun e => decide (e.1 = k)) = true then kvs.map (fun e => if e.1 = k then (e.1, v) else e) else kvs ++ [(k, v)]
noncomputable def isK : PyData -> Bool
 | .int _ => true
 | .str _ => true
 | _ => false
noncomputable def kSame {α : Type} (kvs : List (PyData × α)) (k : PyData) : Bool := (isK k && kvs.all fun e => isK e.1) || (isT k && kvs.all fun e => isT e.1)
noncomputable def keyD : D -> Option PyData
 | .da d => some d
 | _ => none
theorem kP_inj {a b : Key} (h : kP a = kP b) : a = b := by
 cases a <;> cases b <;> simp [kP] at h <;> rw [h]
theorem isK_kP {k : PyData} (h : isK k = true) : ∃ a, k = kP a := by
 cases k <;> simp [isK] at h
 ·exact ⟨.inl _, rfl⟩
 ·exact ⟨.inr _, rfl⟩
theorem val_pv (l : List (Key × V)) (k : Key) : valV (pvK l) (kP k) = valV l k := by
 induction l with
 | nil => rfl
 | cons p r ih =>
  by_cases e : p.1 = k
  ·rw [valV_pos e, show pvK (p :: r) = (kP p.1, p.2) :: pvK r from rfl, valV_pos (by rw [e])]
  ·rw [valV_neg e, show pvK (p :: r) = (kP p.1, p.2) :: pvK r from rfl, valV_neg (fun z => e (kP_inj z)), ih]
theorem put_pv (l : List (Key × V)) (k : Key) (v : V) : pvK (putK l k v) = putK (pvK l) (kP k) v := by
 unfold putK
 rw [valV_any, valV_any, val_pv]
 split
 ·unfold pvK
  (rw [List.map_map, List.map_map])
  refine List.map_congr_left fun e _ => ?_
  show (kP (if e.1 = k then (e.1, v) else e).1, (if e.1 = k then (e.1, v) else e).2) = if kP e.1 = kP k then (kP e.1, v) else (kP e.1, e.2)
  by_cases z : e.1 = k
  ·rw [if_pos z, if_pos (by rw [z])]
  ·rw [if_neg z, if_neg (fun y => z (kP_inj y))]
 ·unfold pvK
  rw [List.map_append]; rfl
theorem DRs.any {l : List (PyData × V)} {kvs : List (PyData × D)} (h : DRs K as H l kvs) (k : PyData) : (l.any fun e => decide (e.1 = k)) = kvs.any fun e => decide (e.1 = k) := by
 induction h with
 | nil => rfl
 | cons r t ih => rw [List.any_cons, List.any_cons, ih]
theorem DRs.put {l : List (PyData × V)} {kvs : List (PyData × D)} (h : DRs K as H l kvs) {v : V} {d : D} (r : RD K as H v d) (k : PyData) : DRs K as H (putK l k v) (dPut kvs k d) := by
 unfold putK dPut
 rw [h.any k]
 split
 ·rename_i c
  clear c
  induction h with
  | nil => exact .nil
  | @cons k' v' d' l kvs r' t ih =>
   rw [List.map_cons, List.map_cons]
   by_cases e : k' = k
   ·rw [if_pos e, if_pos e]; exact .cons r ih
   ·rw [if_neg e, if_neg e]; exact .cons r' ih
 ·rename_i c
  clear c
  induction h with
  | nil => exact .cons r .nil
  | cons r' t ih => exact .cons r' ih
theorem DRs.len {l : List (PyData × V)} {kvs : List (PyData × D)} (h : DRs K as H l kvs) : l.length = kvs.length := by
 induction h with
 | nil => rfl
 | cons r t ih => simp [ih]
theorem pvK_len (l : List (Key × V)) : (pvK l).length = l.length := by simp [pvK]
noncomputable def onD {α : Type} (d : D) (s : S) (k : Nat -> List (PyData × D) -> R α) : R α := match d with
 | .ref n => match s[n]? with
  | some (.dct kvs) => k n kvs
  | _ => .bad
 | _ => .bad
theorem ref_dct {s : S} {p : Addr} {n : Nat} {kvs : List (PyData × D)} (rl : Rel K as H s) (hr : ∀ q, as.ix[n]? = some (some q) -> q = p) (e : s[n]? = some (.dct kvs)) : as.ix[n]? = some (some p) /\ RO K as H p (.dct kvs) := by
 obtain ⟨q, hq⟩ := rl.li n _ e (by intro z; cases z)
 cases hr q hq
 exact ⟨hq, rl.ob n p _ hq e⟩
theorem onD_ok {α β : Type} {rel : As -> Hp -> β -> α -> Prop} {s : S} {d : D} {v : V} {k : Nat -> List (PyData × D) -> R α} {Q : β -> Hp -> Prop} (rl : Rel K as H s) (r : RD K as H v d) (h : Dn K rel as H (onD d s k) Q) : ∃ p n kvs, v = .ref p /\ d = .ref n /\ as.ix[n]? = some (some p) /\ s[n]? = some (.dct kvs) /\ RO K as H p (.dct kvs) /\ Dn K rel as H (k n kvs) Q := by
 cases r with
 | @ref p n l hr =>
  have h : Dn K rel as H (match s[n]? with | some (O.dct kvs) => k n kvs | _ => .bad) Q := h
  split at h
  ·rename_i kvs e
   obtain ⟨h1, h2⟩ := ref_dct rl hr e
   exact ⟨p, n, kvs, rfl, rfl, h1, e, h2, h⟩
  ·exact h.elim
 | _ => exact h.elim
theorem ro_kind {p : Addr} {kvs : List (PyData × D)} {k : PyData} (h : RO K as H p (.dct kvs)) (hs : kSame kvs k = true) : (∃ (l : List (Key × V)) (a : Key), k = kP a /\ H p = some (.dK l) /\ DRs K as H (pvK l) kvs) \/ ∃ l : List (PyData × V), isT k = true /\ DD H p l /\ DRs K as H l kvs := by
 unfold kSame at hs
 rw [Bool.or_eq_true, Bool.and_eq_true, Bool.and_eq_true] at hs
 rcases h with ⟨l, e, r⟩ | ⟨l, e0, e, r⟩
 ·rcases hs with ⟨h1, h2⟩ | ⟨h1, h2⟩
  ·obtain ⟨a, rfl⟩ := isK_kP h1
   exact .inl ⟨l, a, rfl, e, r⟩
  ·cases l with
   | nil => cases r; exact .inr ⟨[], h1, .inr ⟨e, rfl⟩, .nil⟩
   | cons q l =>
    obtain ⟨q1, q2⟩ := q
    exfalso
    have r' : DRs K as H ((kP q1, q2) :: pvK l) kvs := r
    cases r' with
    | cons r1 r2 =>
     rw [List.all_cons, Bool.and_eq_true] at h2
     have := h2.1
     cases q1 <;> simp [kP, isT] at this
 ·rcases hs with ⟨h1, h2⟩ | ⟨h1, h2⟩
  ·exfalso
   cases l with
   | nil => exact e0.1 rfl
   | cons q l =>
    obtain ⟨q1, q2⟩ := q
    cases r with
    | cons r1 r2 =>
     have a1 := e0.2
     rw [List.all_cons, Bool.and_eq_true] at h2 a1
     have h2 := h2.1
     have a1 := a1.1
     cases q1 <;> simp [isK, isT] at h2 a1
  ·exact .inr ⟨l, h1, .inl e, r⟩
end
end PF
namespace PF
open PySem PySem.Spec
open L2
open PyProof.Rows (subscriptTail subscriptTail_builtinR)
section
variable {X : Cx} {K : PySem.W.Frag} {as : As} {H : Hp}
theorem RD.key_inv {v : V} {d : D} {k : PyData} (r : RD K as H v d) (h : keyD d = some k) : TD as H v k := by
 cases r with
 | da t => cases h; exact t
 | _ => cases h
theorem kP_rel {v : V} {u : Value} {a : Key} (t : TD as H v (kP a)) (r : RelV v u) : RelV (kV a) u := by
 cases a with
 | inl i => cases t; exact r
 | inr x => cases t; exact r
theorem isT_key {k : PyData} (h : isT k = true) : keyOk k = true /\ plD k = true /\ ∃ xs, k = .tuple xs := by
 cases k with
 | tuple xs => exact ⟨h, (keyOk_iff.mp (show keyOk (.tuple xs) = true from h)).1, xs, rfl⟩
 | _ => cases h
theorem td_ref {v : V} {xs : List PyData} (t : TD as H v (.tuple xs)) : ∃ b, v = .ref b := by cases t with | tup n e r => exact ⟨_, rfl⟩
end
end PF
namespace PF
open PySem PySem.Spec
open L2
section
variable {X : Cx} {K : PySem.W.Frag} {as : As} {H : Hp}
noncomputable def gDset (o i v : D) (s : S) : R D := onD o s fun n kvs => match keyD i with
 | some k => if kSame kvs k = true /\ kvs.length < sizeLine then .ok .non (s.set n (.dct (dPut kvs k v))) else .bad
 | none => .bad
theorem chgD_ok {s : S} {p : Addr} {n : Nat} {H' : Hp} {o : HO} {d : D} {v : V} {kvs : List (PyData × D)} {Q : VK} (rl : Rel K as H s) (ha : as.ix[n]? = some (some p)) (c : Chg H p o H') (ro : RO K as H' p (.dct kvs)) (rv : RD K as H v d) (h : Dn K (rD K) as H (.ok d (s.set n (.dct kvs))) Q) : Q v H' := by
 have st := step_chg (mem_as.mpr ⟨n, ha⟩) (fun z => rl.hx p z (mem_as.mpr ⟨n, ha⟩)) c
 exact h v as H' st (rl.chg ha c ro) (rv.mono st)
theorem isT_all {l : List (PyData × V)} {k : PyData} {v : V} (hl : (l.all fun e => isT e.1) = true) (hk : isT k = true) : ((putK l k v).all fun e => isT e.1) = true := by
 rw [List.all_eq_true] at hl ⊢
 intro e he
 unfold putK at he
 split at he
 ·obtain ⟨e', h1, h2⟩ := List.mem_map.mp he
  split at h2
  ·subst h2; exact hl e' h1
  ·subst h2; exact hl _ h1
 ·rcases List.mem_append.mp he with h | h
  ·exact hl e h
  ·rw [List.mem_singleton] at h
   subst h; exact hk
theorem putK_ne {κ : Type} [DecidableEq κ] (l : List (κ × V)) (k : κ) (v : V) : putK l k v ≠ [] := by
 unfold putK
 split
 ·rename_i h
  cases l with
  | nil => simp at h
  | cons a b => simp
 ·simp
theorem ro_all {p : Addr} {kvs : List (PyData × D)} (h : RO K as H p (.dct kvs)) {l : List (PyData × V)} (dd : DD H p l) : (l.all fun e => isT e.1) = true := by
 rcases dd with e | ⟨_, rfl⟩
 ·rcases h with ⟨l', e', _⟩ | ⟨l', h0, e', _⟩
  ·rw [e] at e'; cases e'
  ·rw [e] at e'; cases e'; exact h0.2
 ·rfl
end
end PF
namespace PF
open PySem PySem.Spec
open L2
section
variable {X : Cx} {K : PySem.W.Frag} {as : As} {H : Hp}
theorem dset_ok (hu : X.A.units + 70 < cLine) {pins : List (Addr × Obj)} {sh : Shared} {σ : St} {H : Hp} {as : As} {s : S} {p : Addr} {y z : V} {n : Nat} {dy dz : D} {u r : Value} {Q : VK} {E : Value -> Shared -> Prop} (I : Inv X pins σ H sh) (rl : Rel X.K as H s) (r1 : RD X.K as H (.ref p) (.ref n)) (r2 : RD X.K as H y dy) (r3 : RD X.K as H z dz) (ry : RelV y u) (rz : RelV z r)
  (h : Dn X.K (rD X.K) as H (gDset (.ref n) dy dz s) Q) : wpAny (model X.prog X.w) X.A (dictSet p u r) (fun _ s' => ∃ H', Inv X pins σ H' s' /\ Q .non H') E sh := by
 obtain ⟨p', n', kvs, e0, e1, ha, e, ro, h⟩ := onD_ok rl r1 h
 cases e0; cases e1
 split at h
 ·rename_i k hk
  split at h
  ·rename_i hsm
   obtain ⟨hsm, hlen⟩ := hsm
   have ty := r2.key_inv hk
   rcases ro_kind ro hsm with ⟨l, a, rfl, eh, dr⟩ | ⟨l, it, dd, dr⟩
   ·have hl : l.length < sizeLine := by rw [← pvK_len, dr.len]; exact hlen
    obtain ⟨zz, hd, vs, rel, dct⟩ := dk_of I.hok eh
    have hl' : (putK l a z).length <= sizeLine := by have := length_putK l a z; omega
    refine wpAny_dictSet_pairs (hsz := by rw [← rel.length]; exact zz) (kV_is (kP_rel ty ry)) dct fun h' dd' hs => ?_
    have he : ∃ q, h'.get? p = some q := let ⟨q, _, _, hq, _⟩ := dd'; ⟨q, hq⟩
    refine ⟨_, d_write I (by rw [eh]; exact True.intro) hs he (dk_new hl' hd (rel.put a rz) dd'), ?_⟩
    have c : Chg H p (.dK (putK l a z)) (upd H p (.dK (putK l a z))) := ⟨rfl⟩
    have st := step_chg (mem_as.mpr ⟨n, ha⟩) (fun q => rl.hx p q (mem_as.mpr ⟨n, ha⟩)) c
    refine chgD_ok (v := .non) rl ha c (.inl ⟨_, c.at, ?_⟩) (.da .non) h
    rw [put_pv]
    exact (dr.put r3 (kP a)).mono st
   ·obtain ⟨kok, kpl, ks, rfl⟩ := isT_key it
    obtain ⟨b, rfl⟩ := td_ref ty
    cases ry
    have hl : l.length < sizeLine := by rw [dr.len]; exact hlen
    obtain ⟨zz, hd, xs, rel, dct⟩ := dd.rd I.hok
    have hl' : (putK l (.tuple ks) z).length <= sizeLine := by have := length_putK l (.tuple ks) z; omega
    refine wpAny_dictSet_heap (hsz := by rw [← Paired.length rel]; exact zz) (show (dataKind X.prog X.w).room X.A from (show X.A.units + 10 < cLine by omega)) (kd_is I.hok kok (TD.kd ty kpl)) dct fun h' dd' hs => ?_
    have he : ∃ q, h'.get? p = some q := let ⟨q, _, _, hq, _⟩ := dd'; ⟨q, hq⟩
    have ht : ∀ c ys, H c = some (.tup ys) -> upd H p (.dD (putK l (.tuple ks) z)) c = some (.tup ys) := fun c ys q => by
     rw [upd_ne (fun y => by subst y; rcases dd with e | ⟨e, _⟩ <;> (rw [e] at q; cases q))]; exact q
    refine ⟨_, d_write I dd.mut hs he (dd_put hl' hd (rel.put kok (TD.kd ty kpl) rz) ht dd'), ?_⟩
    have c : Chg H p (.dD (putK l (.tuple ks) z)) (upd H p (.dD (putK l (.tuple ks) z))) := ⟨rfl⟩
    have st := step_chg (mem_as.mpr ⟨n, ha⟩) (fun q => rl.hx p q (mem_as.mpr ⟨n, ha⟩)) c
    exact chgD_ok (v := .non) rl ha c (.inr ⟨_, ⟨putK_ne _ _ _, isT_all (ro_all ro dd) it⟩, c.at, (dr.put r3 _).mono st⟩) (.da .non) h
  ·exact h.elim
 ·exact h.elim
abbrev FP := En -> S -> R (List (D × D))
inductive RPs (K : PySem.W.Frag) (as : As) (H : Hp) : List (V × V) -> List (D × D) -> Prop
 | nil : RPs K as H [] []
 | cons {x y : V} {a b : D} {ps : List (V × V)} {ds : List (D × D)} : RD K as H x a -> RD K as H y b -> RPs K as H ps ds -> RPs K as H ((x, y) :: ps) ((a, b) :: ds)
theorem RPs.mono {as' : As} {H' : Hp} (st : Step as H as' H') {ps : List (V × V)} {ds : List (D × D)} (h : RPs K as H ps ds) : RPs K as' H' ps ds := by
 induction h with
 | nil => exact .nil
 | cons a b t ih => exact .cons (a.mono st) (b.mono st) ih
noncomputable def fpNil : FP := fun _ s => .ok [] s
noncomputable def fpCons (fk fv : FE) (r : FP) : FP := fun ρ s => (fk ρ s).bind fun k s1 => (fv ρ s1).bind fun v s2 => (r ρ s2).bind fun ps s3 => .ok ((k, v) :: ps) s3
structure RP (X : Cx) (pos : Pos) (keys : List (Option Expr)) (values : List Expr) (f : FP) : Prop where
 ex : ∃ trs, PPs X pos keys values trs /\ ∀ as σ H ρ s Q, Rel X.K as H s -> Envs X.K as H ρ σ -> Dn X.K (RPs X.K) as H (f ρ s) Q -> tPairs trs σ H Q
theorem rp_nil {pos : Pos} : RP X pos [] [] fpNil := ⟨[], pps_nil, fun as σ H ρ s Q rl en h => Dn.now (Q := Q) h rl .nil⟩
theorem rp_cons {pos : Pos} {k v : Expr} {ks : List (Option Expr)} {vs : List Expr} {fk fv : FE} {f : FP} (hk : RE X k fk) (hv : RE X v fv) (hr : RP X pos ks vs f) : RP X pos (some k :: ks) (v :: vs) (fpCons fk fv f) := by
 obtain ⟨tk, pk, rk⟩ := hk.ex
 obtain ⟨tv, pv, rv⟩ := hv.ex
 obtain ⟨trs, pp, rr⟩ := hr.ex
 refine ⟨(tk, tv) :: trs, pps_cons pk pv pp, fun as σ H ρ s Q rl en h => ?_⟩
 refine rk as σ H ρ s _ rl en (Dn.bind h fun d1 s1 as1 H1 x st1 rl1 r1 h1 => ?_)
 refine rv as1 σ H1 ρ s1 _ rl1 (en.mono st1) (Dn.bind h1 fun d2 s2 as2 H2 y st2 rl2 r2 h2 => ?_)
 refine rr as2 σ H2 ρ s2 _ rl2 ((en.mono st1).mono st2) (Dn.bind h2 fun ps s3 as3 H3 qs st3 rl3 r3 h3 => ?_)
 exact Dn.now (Q := Q) h3 rl3 (.cons ((r1.mono st2).mono st3) (r2.mono st3) r3)
noncomputable def putAll (n : Nat) : List (D × D) -> S -> R D
 | [], s => .ok .non s
 | (k, v) :: r, s => (gDset (.ref n) k v s).bind fun _ s1 => putAll n r s1
noncomputable def fDctP (f : FP) : FE := fun ρ s => (f ρ (s ++ [.dct []])).bind fun ps s1 => (putAll s.length ps s1).bind fun _ s2 => .ok (.ref s.length) s2
theorem store_ok (hu : X.A.units + 70 < cLine) {E : Value -> Shared -> Prop} {pins : List (Addr × Obj)} {σ : St} {p : Addr} {n : Nat} : ∀ {ps : List (V × V)} {ds : List (D × D)} {us : List (Value × Value)} {sh : Shared} {H : Hp} {as : As} {s : S} {Q : VK}, RPs X.K as H ps ds -> VV ps us -> Inv X pins σ H sh -> Rel X.K as H s -> RD X.K as H (.ref p) (.ref n) -> Dn X.K (rD X.K) as H ((putAll n ds s).bind fun _ s2 => .ok (.ref n) s2) Q ->
  wpAny (model X.prog X.w) X.A (storeAll p us) (fun _ s' => ∃ H', Inv X pins σ H' s' /\ Q (.ref p) H') E sh
 | _, _, _, sh, H, as, s, Q, .nil, v, I, rl, r, h => by
  cases v
  show wpAny _ _ (forIn [] _ _) _ _ _
  rw [List.forIn_nil]
  exact wpAny_pure ⟨H, I, Dn.now (Q := Q) (show Dn X.K (rD X.K) as H (.ok (.ref n) s) Q from h) rl r⟩
 | _, _, _, sh, H, as, s, Q, .cons (ps := ps) (ds := ds) (a := a) (b := b) ra rb t, v, I, rl, r, h => by
  cases v with
  | @cons _ q _ us hq vr =>
   obtain ⟨q1, q2⟩ := q
   show wpAny _ _ (forIn ((q1, q2) :: us) _ _) _ _ _
   rw [List.forIn_cons]
   have h' : Dn X.K (rD X.K) as H ((gDset (.ref n) a b s).bind fun _ s1 => (putAll n ds s1).bind fun _ s2 => .ok (.ref n) s2) Q := by
    have e : ((putAll n ((a, b) :: ds) s).bind fun _ s2 => R.ok (D.ref n) s2) = (gDset (.ref n) a b s).bind fun _ s1 => (putAll n ds s1).bind fun _ s2 => .ok (.ref n) s2 := by
     show ((gDset (.ref n) a b s).bind fun _ s1 => putAll n ds s1).bind _ = _
     cases gDset (.ref n) a b s <;> rfl
    rw [← e]; exact h
   refine wpAny_bind (wpAny_bind (wpAny_mono (dset_ok (E := E) (Q := fun _ H' => ∃ as' s', Step as H as' H' /\ Rel X.K as' H' s' /\ Dn X.K (rD X.K) as' H' ((putAll n ds s').bind fun _ s2 => .ok (.ref n) s2) Q) hu I rl r ra rb hq.1 hq.2 (Dn.bind h' fun d s1 as1 H1 vv st1 rl1 r1 h1 => ⟨as1, s1, st1, rl1, h1⟩)) (fun _ s' hx => ?_) fun _ _ e => e))
   obtain ⟨H1, I1, as1, s1, st1, rl1, h1⟩ := hx
   exact wpAny_pure (store_ok hu (t.mono st1) vr I1 rl1 (r.mono st1) h1)
theorem re_dctP {pos : Pos} {keys : List (Option Expr)} {values : List Expr} {f : FP} (hu : X.A.units + 70 < cLine) (h : RP X pos keys values f) (hall : keys.all (·.isSome) = true := by rfl) (hl : keys.length = values.length := by rfl) (h0 : keys ≠ [] := by (intro z; cases z)) (h15 : keys.length <= 15 := by decide) : RE X (.Dict keys values pos) (fDctP f) := by
 obtain ⟨trs, pp, rr⟩ := h.ex
 refine ⟨fun σ H Q => ∀ p, H p = none -> tPairs trs σ (upd H p (.dK [])) fun ps H2 => ∃ as s ds n, Rel X.K as H2 s /\ RPs X.K as H2 ps ds /\ RD X.K as H2 (.ref p) (.ref n) /\ Dn X.K (rD X.K) as H2 ((putAll n ds s).bind fun _ s2 => .ok (.ref n) s2) Q, ⟨fun pins sh σ H Q I h => ?_⟩, fun as σ H ρ s Q rl en h => ?_⟩
 ·have I1 := I.laid (a := sh.heap.objs.size) (o := .dK []) (h' := sh.heap.push { cls := .type "dict", data := .dict #[] }) (t' := sh.toks) (fun _ _ q => Heap.get?_push_of_some _ q) (Nat.le_refl _) (dk_empty sh.heap I.big)
  refine wpAny_Dict_any hall hl h0 h15 (thn (pp pins _ σ _ _ I1 (h _ (I.hok.fresh (Nat.le_refl _)))) fun us s1 ⟨ps, H1, I2, vv, as, s, ds, n, rl, rps, rd, q⟩ => ?_)
  exact wpAny_mono (store_ok hu rps vv I2 rl rd q) (fun _ s2 ⟨H2, I3, q2⟩ => ⟨.ref _, H2, I3, rfl, q2⟩) fun _ _ e => e
 ·intro p hp
  have nw : New H p (.dK []) (upd H p (.dK [])) := ⟨hp, rfl⟩
  have st := step_laid (as := as) nw
  have rl1 := rl.laid nw (u := .dct []) (.inl ⟨[], nw.at, .nil⟩)
  have rd : RD X.K (as.add p) (upd H p (.dK [])) (.ref p) (.ref s.length) := .ref (by simp [rl.len]) fun q e => by
   rw [← rl.len] at e
   simp at e
   exact e.symm
  refine rr (as.add p) σ _ ρ (s ++ [.dct []]) _ rl1 (en.mono st) (Dn.bind (Dn.step h st) fun ds s1 as1 H1 ps st1 rl2 r1 h1 => ⟨as1, s1, ds, s.length, rl2, r1, rd.mono st1, h1⟩)
end
end PF
namespace L2
open PySem PySem.Spec PyProof.Rows
abbrev TBd := Addr -> St -> Hp -> (St -> Hp -> Prop) -> Prop
end L2
namespace L2
open PySem PySem.Spec PyProof.Rows
theorem fill_tuple : fillsNumberSlot (.type "tuple") "mul" = pure false := PySem.fillsNumberSlot_seq (id := "tuple.__mul__") (r := some (.builtin "tuple.__rmul__")) F.slot_tuple_mul.lookup (by decide +kernel) F.slot_tuple_rmul.lookup (by decide +kernel)
theorem rep_tuple : seqRepeat? (.type "tuple") = pure (some (.builtin "tuple.__mul__")) := by
 unfold seqRepeat?
 rw [PySem.seqSlot_of (T := "tuple") (name := "__mul__") (id := "tuple.__mul__") F.slot_tuple_mul.lookup (by decide +kernel), PySem.seqSlot_of (T := "tuple") (name := "__rmul__") (id := "tuple.__rmul__") F.slot_tuple_rmul.lookup (by decide +kernel)]; rfl
theorem rep_size (items : Array Value) : ∀ (k : Nat) (acc : Array Value), ((List.replicate k items).foldl (· ++ ·) acc).size = acc.size + k * items.size
 | 0, acc => by simp
 | k + 1, acc => by
  rw [List.replicate_succ, List.foldl_cons, rep_size items k, Array.size_append, Nat.succ_mul]; omega
theorem rep_list (items : List Value) : ∀ (k : Nat) (acc : Array Value), ((List.replicate k items.toArray).foldl (· ++ ·) acc).toList = acc.toList ++ (List.replicate k items).flatten
 | 0, acc => by simp
 | k + 1, acc => by
  rw [List.replicate_succ, List.foldl_cons, rep_list items k, List.replicate_succ, List.flatten_cons]; simp
theorem tup_mul (l : Addr) (items : Array Value) (n : Nat) (x : Int) (u : Tok) (h0 : -1000 < x) (h1 : x < 1000) (h2 : items.size < 1000) (he : items.isEmpty = false) :
  Meets (Builtin.«tuple.__mul__» ⟨[.ref l, .int x u], []⟩) (fun _ R s => s.heap.get? l = some { cls := .type "tuple", data := .seq items n } /\
   if x = 1 then R (.ok (.ret (.ref l))) s else R (.ok (.ret (.ref s.heap.objs.size))) { s with heap := s.heap.push { cls := .type "tuple", data := .seq ((List.replicate x.toNat items).foldl (· ++ ·) #[]) } }) :=
 .of_wp fun prog w A R s h => by
  (obtain ⟨hp, g, d, tk, os⟩ := s; obtain ⟨hl, h⟩ := h)
  wp_walk
  (refine wpAny_ite_false (by simp; omega) ?_)
  wp_walk
  by_cases e1 : x = 1
  ·rw [if_pos e1] at h
   refine wpAny_ite_true (by simp [e1]) ?_
   wp_walk
   exact ⟨_, rfl, h⟩
  ·rw [if_neg e1] at h
   refine wpAny_ite_false (by simp [he, e1]) ?_
   by_cases e2 : x <= 0
   ·refine wpAny_ite_true (by simp [e2]) ?_
    have e3 : x.toNat = 0 := by omega
    rw [e3] at h
    wp_walk
    exact ⟨_, rfl, h⟩
   ·refine wpAny_ite_false (by simp [he]; omega) ?_
    obtain ⟨k, rfl⟩ : ∃ k : Nat, x = (k : Int) := ⟨x.toNat, by omega⟩
    have b0 : items.size * k < 1000000 := Nat.mul_lt_mul'' (c := 1000) (d := 1000) h2 (by omega)
    have b1 : (items.size : Int) * (k : Int) < 1000000 := by
     have hb := Int.ofNat_lt.mpr b0
     rw [Int.natCast_mul] at hb
     exact hb
    generalize hp0 : (items.size : Int) * (k : Int) = pr at b1 ⊢
    (refine wpAny_ite_false (by simp; omega) ?_)
    refine wpAny_ite_false (by unfold Builtin.Tuple.tupleTooMany; rw [sizeLine_eq]; simp; omega) ?_
    rw [Int.toNat_natCast] at h ⊢
    wp_walk
    have hz : ((List.replicate k items).foldl (· ++ ·) #[]).size <= sizeLine := by
     rw [rep_size, sizeLine_eq, Nat.mul_comm]; simp; omega
    refine wpAny_ite_false (decide_eq_false (Nat.not_lt.mpr hz)) ?_
    wp_walk
    exact ⟨_, rfl, h⟩
theorem rmul_tup (a : Int) (t : Tok) (l : Addr) (items : Array Value) (n : Nat) :
  Meets (Builtin.«int.__rmul__» ⟨[.int a t, .ref l], []⟩) (fun _ R s => s.heap.get? l = some { cls := .type "tuple", data := .seq items n } /\ R (.ok (.ret Value.notImplemented)) s) :=
 .of_wp fun prog w A R s h => by
  (obtain ⟨hp, g, d, tk, os⟩ := s; obtain ⟨hl, h⟩ := h)
  wp_walk
  exact ⟨_, rfl, h⟩
section
variable {P : Program} {w : World} {A : Around} {E : Value -> Shared -> Prop} {s : Shared}
theorem op_mulT {l : Addr} {items : Array Value} {n : Nat} {x : Int} {u : Tok} {Q : Value -> Shared -> Prop} (ho : s.heap.get? l = some { cls := .type "tuple", data := .seq items n }) (h0 : -1000 < x) (h1 : x < 1000) (h2 : items.size < 1000) (he : items.isEmpty = false)
  (h : if x = 1 then Q (.ref l) s else Q (.ref s.heap.objs.size) { s with heap := s.heap.push { cls := .type "tuple", data := .seq ((List.replicate x.toNat items).foldl (· ++ ·) #[]) } }) : wpAny (model P w) A (binaryOp .Mult (.ref l) (.int x u)) Q E s := by
 refine wpAny_binaryOp_repeat_ref (T := "tuple") (U := "int") (by decide) ⟨_, ho, rfl⟩ (fun s' => typeIs_int s' x u) fill_tuple F.fills_int_mul F.slot_int_rmul rep_tuple F.slot_int_index.lookup
  (call_meets F.slot_int_rmul (typeIs_int s x u) F.entry_int_rmul (F.args_int_rmul_2 _ _) (rmul_tup x u l items n) ⟨ho, rfl, ⟨_, ho, rfl⟩, call_meets F.slot_tuple_mul ⟨_, ho, rfl⟩ F.entry_tuple_mul (F.args_tuple_mul_2 _ _) (tup_mul l items n x u h0 h1 h2 he) ⟨ho, ?_⟩⟩)
 by_cases e : x = 1
 ·rw [if_pos e] at h ⊢; exact h
 ·rw [if_neg e] at h ⊢; exact h
end
end L2
namespace PF
open PySem PySem.Spec
open L2
section
variable {X : Cx} {K : PySem.W.Frag} {as : As} {H : Hp}
noncomputable def gMulT (dx dy : D) (s : S) : R D := match dx, dy with
 | .tup xs, .int i => if -1000 < i /\ i < 1000 /\ xs.length < 1000 /\ xs ≠ [] then .ok (.tup (List.replicate i.toNat xs).flatten) s else .bad
 | dx, dy => gMul dx dy s
theorem TDs.app : ∀ {vs ws : List V} {ds es : List PyData}, TDs as H vs ds -> TDs as H ws es -> TDs as H (vs ++ ws) (ds ++ es)
 | _, _, _, _, .nil, s => s
 | _, _, _, _, .cons a r, s => .cons a (TDs.app r s)
theorem TDs.rep {vs : List V} {ds : List PyData} (t : TDs as H vs ds) : ∀ k : Nat, TDs as H (List.replicate k vs).flatten (List.replicate k ds).flatten
 | 0 => .nil
 | k + 1 => by
  rw [List.replicate_succ, List.replicate_succ, List.flatten_cons, List.flatten_cons]
  exact t.app (TDs.rep t k)
theorem vals_rep {vs : List V} {us : List Value} (r : Vals vs us) : ∀ k : Nat, Vals (List.replicate k vs).flatten (List.replicate k us).flatten
 | 0 => .nil
 | k + 1 => by
  rw [List.replicate_succ, List.replicate_succ, List.flatten_cons, List.flatten_cons]
  exact r.append (vals_rep r k)
theorem o_mulT : Op2 X (binaryOp .Mult) gMulT := op2_of fun pins sh σ H as s x y dx dy v u Q I rl r1 r2 rx ry h => by
 unfold gMulT at h
 split at h
 ·rename_i xs i
  split at h
  ·rename_i hb
   obtain ⟨b1, b2, b3, b4⟩ := hb
   obtain ⟨p, vs, rfl, n, e, t⟩ := r1.tup_inv
   cases r2.int_inv
   cases rx
   obtain ⟨tk, rfl⟩ := ry
   obtain ⟨z, its, rv, c, eo⟩ := (show ObjOk X.prog X.w H sh.heap p (.tup vs) from I.hok p _ e)
   have hl1 := t.length
   have hl2 := rv.length
   have hne : its.toArray.isEmpty = false := by
    cases its with
    | nil => simp at hl2; rw [hl2] at hl1; simp at hl1; exact absurd hl1.symm (by simpa using b4)
    | cons a r => rfl
   refine op_mulT eo b1 b2 (by rw [List.size_toArray]; omega) hne ?_
   by_cases e1 : i = 1
   ·rw [if_pos e1]
    subst e1
    have : (List.replicate (1 : Int).toNat xs).flatten = xs := by simp
    rw [this] at h
    exact ⟨.ref p, H, I, rfl, Dn.now (Q := Q) h rl (.da (.tup n e t))⟩
   ·rw [if_neg e1]
    have hz : (List.replicate i.toNat vs).flatten.length <= sizeLine := by
     rw [List.length_flatten, List.map_replicate, List.sum_replicate_nat, sizeLine_eq]
     have := Nat.mul_lt_mul'' (a := i.toNat) (c := 1000) (b := vs.length) (d := 1000) (by omega) (by omega)
     omega
    have I2 : Inv X pins σ (upd H sh.heap.objs.size (.tup (List.replicate i.toNat vs).flatten)) { sh with heap := sh.heap.push { cls := .type "tuple", data := .seq ((List.replicate i.toNat its.toArray).foldl (· ++ ·) #[]) }, toks := sh.toks } :=
     I.laid (fun b o e => Heap.get?_push_of_some _ e) (Nat.le_refl _) ⟨hz, (List.replicate i.toNat its).flatten, vals_rep rv _, 0, by
      have := rep_list its i.toNat #[]
      rw [show ((List.replicate i.toNat its).flatten).toArray = (List.replicate i.toNat its.toArray).foldl (· ++ ·) #[] from by
       apply Array.toList_inj.mp; rw [this]; simp]
      exact Heap.get?_push_size _ rfl⟩
    have nw : New H sh.heap.objs.size (.tup (List.replicate i.toNat vs).flatten) (upd H sh.heap.objs.size (.tup (List.replicate i.toNat vs).flatten)) := ⟨I.hok.fresh (Nat.le_refl _), rfl⟩
    exact ⟨.ref _, _, I2, rfl, h (.ref _) as _ (step_new nw) (rl.new nw) (.da (.tup (fun z => rl.has z nw.no) nw.at ((t.rep _).mono (step_new nw))))⟩
  ·exact h.elim
 ·obtain ⟨r, o, f⟩ := (o_mul (X := X)).ex
  exact o pins sh σ H x y v u Q I rx ry (f as H s x y dx dy Q rl r1 r2 h)
end
end PF
namespace L2
open PySem PySem.Spec PyProof.Rows
section
variable {P : Program} {w : World} {A : Around} {E : Value -> Shared -> Prop} {s : Shared}
theorem op_mulL {l : Addr} {items : Array Value} {n : Nat} {x : Int} {u : Tok} {Q : Value -> Shared -> Prop} (ho : s.heap.get? l = some { cls := .type "list", data := .seq items n }) (h0 : -1000 < x) (h1 : x < 1000) (h2 : items.size < 1000)
  (h : Q (.ref s.heap.objs.size) { s with heap := s.heap.push { cls := .type "list", data := .seq (List.replicate x.toNat items.toList).flatten.toArray } }) : wpAny (model P w) A (binaryOp .Mult (.ref l) (.int x u)) Q E s := by
 have b0 : items.size * x.toNat < 1000000 := Nat.mul_lt_mul'' (c := 1000) (d := 1000) h2 (by omega)
 refine wpAny_binaryOp_repeat_ref (T := "list") (U := "int") (by decide) ⟨_, ho, rfl⟩ (fun s' => typeIs_int s' x u) noFill_list_mul F.fills_int_mul F.slot_int_rmul repeat_list F.slot_int_index.lookup --
  (call_meets F.slot_int_rmul (typeIs_int s x u) F.entry_int_rmul (F.args_int_rmul_2 _ _) (lm_int_rmul_list_any x u l items n none #[])
   ⟨ho, rfl, ⟨_, ho, rfl⟩, call_meets F.slot_list_mul ⟨_, ho, rfl⟩ F.entry_list_mul (F.args_list_mul_2 _ _) --
    (lm_list_mul_any l items n none #[] x u (by simp [Builtin.List.listFitsIndex]; omega) (by omega) (by simp [Builtin.List.listTooLong, sizeLine]; omega)) ⟨ho, ?_⟩⟩)
 have e := listMul_foldl_if items x.toNat
 show Q _ _
 rw [e]
 exact h
end
end L2
namespace PF
open PySem PySem.Spec
open L2
section
variable {X : Cx}
noncomputable def gMulL (m : Bool) (dx dy : D) (s : S) : R D := match toL s dx, dy with
 | some xs, .int i => if -1000 < i /\ i < 1000 /\ xs.length < 1000 then newL m (List.replicate i.toNat xs).flatten s else .bad
 | _, _ => gMulT dx dy s
theorem RDs.rep {K : PySem.W.Frag} {as : As} {H : Hp} {vs : List V} {ds : List D} (t : RDs K as H vs ds) : ∀ k : Nat, RDs K as H (List.replicate k vs).flatten (List.replicate k ds).flatten
 | 0 => .nil
 | k + 1 => by
  rw [List.replicate_succ, List.replicate_succ, List.flatten_cons, List.flatten_cons]
  exact t.append (RDs.rep t k)
theorem o_mulL (m : Bool) : Op2 X (binaryOp .Mult) (gMulL m) := op2_of fun pins sh σ H as s x y dx dy v u Q I rl r1 r2 rx ry h => by
 unfold gMulL at h
 split at h
 ·rename_i xs i hx
  split at h
  ·rename_i hb
   obtain ⟨b1, b2, b3⟩ := hb
   obtain ⟨p, vs, rfl, e, t⟩ := toL_ok rl r1 hx
   cases r2.int_inv
   cases rx
   obtain ⟨tk, rfl⟩ := ry
   obtain ⟨z, its, c, rv, eo⟩ := (show ObjOk X.prog X.w H sh.heap p (.lst vs) from I.hok p _ e)
   have hl1 := t.length
   have hl2 := rv.length
   refine op_mulL eo b1 b2 (by rw [List.size_toArray]; omega) ?_
   have hz : (List.replicate i.toNat vs).flatten.length <= sizeLine := by
    rw [List.length_flatten, List.map_replicate, List.sum_replicate_nat, sizeLine_eq]
    have := Nat.mul_lt_mul'' (a := i.toNat) (c := 1000) (b := vs.length) (d := 1000) (by omega) (by omega)
    omega
   have I2 : Inv X pins σ (upd H sh.heap.objs.size (.lst (List.replicate i.toNat vs).flatten)) { sh with heap := sh.heap.push { cls := .type "list", data := .seq (List.replicate i.toNat its.toArray.toList).flatten.toArray }, toks := sh.toks } :=
    I.laid (fun b o e => Heap.get?_push_of_some _ e) (Nat.le_refl _) ⟨hz, (List.replicate i.toNat its).flatten, 0, vals_rep rv _, Heap.get?_push_size _ rfl⟩
   have nw : New H sh.heap.objs.size (.lst (List.replicate i.toNat vs).flatten) (upd H sh.heap.objs.size (.lst (List.replicate i.toNat vs).flatten)) := ⟨I.hok.fresh (Nat.le_refl _), rfl⟩
   exact ⟨.ref _, _, I2, rfl, newL_ok h rl (t.rep _) nw⟩
  ·exact h.elim
 ·obtain ⟨r, o, f⟩ := (o_mulT (X := X)).ex
  exact o pins sh σ H x y v u Q I rx ry (f as H s x y _ _ Q rl r1 r2 h)
end
end PF
namespace PF
open PySem PySem.Spec L2
theorem u70 {A : Around} {k : Nat} (hr : Room k A) : A.units + 70 < cLine := by have := hr.un; omega
end PF
namespace PF
open PySem PySem.Spec
open L2
open PyProof.Rows (envOfC)
section
variable {X : Cx} {K : PySem.W.Frag} {as : As} {H : Hp}
noncomputable def putN (f : Str) (d : D) : List (Str × D) -> List (Str × D)
 | [] => [(f, d)]
 | (g, x) :: r => if g = f then (g, d) :: r else (g, x) :: putN f d r
theorem FRs.put {f : Str} {v : V} {d : D} (r : RD K as H v d) : ∀ {l : List (Str × V)} {fs : List (Str × D)}, FRs K as H l fs -> FRs K as H (putF f v l) (putN f d fs)
 | _, _, .nil => .cons r .nil
 | _, _, .cons a t => by
  unfold putF putN
  split
  ·exact .cons r t
  ·exact .cons a (FRs.put r t)
theorem FRs.look {f : Str} : ∀ {l : List (Str × V)} {fs : List (Str × D)}, FRs K as H l fs -> (∀ d, fs.lookup f = some d -> ∃ v, l.lookup f = some v /\ RD K as H v d) /\ (fs.lookup f = none -> l.lookup f = none)
 | _, _, .nil => ⟨fun d e => (by cases e), fun _ => rfl⟩
 | _, _, .cons (f := g) (v := v) (d := x) a t => by
  have ih := FRs.look (f := f) t
  by_cases z : (f == g) = true
  ·refine ⟨fun d e => ⟨v, ?_, ?_⟩, fun e => ?_⟩
   ·rw [List.lookup_cons, z]
   ·rw [List.lookup_cons, z] at e; cases e; exact a
   ·rw [List.lookup_cons, z] at e; cases e
  ·rw [Bool.not_eq_true] at z
   refine ⟨fun d e => ?_, fun e => ?_⟩
   ·rw [List.lookup_cons, z] at e
    obtain ⟨v', h1, h2⟩ := ih.1 d e
    exact ⟨v', by rw [List.lookup_cons, z]; exact h1, h2⟩
   ·rw [List.lookup_cons, z] at e
    rw [List.lookup_cons, z]; exact ih.2 e
theorem FRs.len : ∀ {l : List (Str × V)} {fs : List (Str × D)}, FRs K as H l fs -> l.length = fs.length
 | _, _, .nil => rfl
 | _, _, .cons _ t => congrArg (· + 1) (FRs.len t)
end
noncomputable def inCls (st : Stmt) (j : Nat) : Stmt := match st with
 | .ClassDef (body := b) .. => b.getD j (.Pass ⟨0, 0, 0, 0⟩)
 | _ => .Pass ⟨0, 0, 0, 0⟩
section
variable {P : Program} {w : World} {K : PySem.W.Frag} {mg : Str -> Option Value} {base : Heap} {x q C : Str} {st : Stmt} {N ps : List Str} {k : Nat}
theorem fnQ {f : Addr} {fd : FuncData} (F : Fun K x q st f fd) (S : FnScope N ps (defScope st)) {m n : Nat} {fb : FS} (hm : N.length = m) (hn : ps.length = n)
  (hbody : ∀ (f : Addr) (cdv : Value) (A : Around) (outer : List Env) (s : Shared) (H : Hp) (E : XK), Room k (A.deeper (envOfC q (defScope st) s.heap.objs.size f cdv)) ->
   RSs (cxOf CX0 P w K mg base N q (defScope st) f cdv A outer s H E).nox (defBody st) fb) : FnOk P w K mg base CX0 (k + 1) f fd ps (spF K n (bodyF m fb)) := by
 refine F.ok S (fun vs H Q E h => by rw [hn]; exact h.1) fun cdv A outer s H vs Q E hr h => ?_
 obtain ⟨hv, as, ds, s', rl, rs, h⟩ := h
 obtain ⟨t, p, r⟩ := (hbody f cdv A outer s H E hr).ex
 refine ⟨t, p, ?_⟩
 have en : Envs K as H (ds.map some ++ List.replicate (m - ds.length) none) (L2.start N vs) := by rw [← hm]; exact start_envs rs
 refine r as _ H _ s' _ rl en (Dn.bind h fun fl s1 as1 H1 fv st1 rl1 r1 h1 => ?_)
 cases r1 with
 | nx e => exact Dn.now (Q := Q) h1 rl1 (.da .non)
 | rt e => exact Dn.now (Q := Q) h1 rl1 e
 | bk e => exact h1.elim
 | ct e => exact h1.elim
end
end PF
namespace PF
open PySem PySem.Spec
open L2
section
variable {X : Cx} {pins : List (Addr × Obj)} {σ : St} {H : Hp} {s : Shared} {as : As}
noncomputable def fDctE : FE := fun _ s => .ok (.da (.dict [])) s
theorem re_dctE {pos : Pos} : RE X (.Dict [] [] pos) fDctE := ⟨_, pe_dnewK, fun as σ H ρ s Q rl en h => fun p hp =>
 h (.ref p) as (upd H p (.dK [])) (step_new ⟨hp, rfl⟩) (rl.new ⟨hp, rfl⟩) (.da (.dct (fun z => rl.has z hp) upd_same))⟩
theorem show1_le (i : Int) (d : PyData) : d.shown.length <= (PyData.dict [(.int i, d)]).shown.length := by
 obtain ⟨p, hp, hl⟩ := PyData.shownKv_val_le [(.int i, d)] d.shown (by simp [PyData.shownAll])
 rw [show (PyData.dict [(.int i, d)]).shown = dictText (PyData.shownKv [(.int i, d)]) by simp only [PyData.shown]]
 exact Nat.le_trans hl (dictText_mem_le hp)
mutual
theorem TD.repr (I : Inv X pins σ H s) : ∀ {v : V} {d : PyData} {u : Value}, TD as H v d -> RelV v u -> d.showable = true -> d.shown.length <= sizeLine -> ∃ bs, ReadAtMost s.heap d.depth bs /\ ReprK X.prog X.w bs s.heap d.depth u d.shown
 | _, _, u, .non, r, _, _ => by
  cases (show u = Value.none from r)
  exact ⟨[], (fun _ h => nomatch h), by simp only [PyData.shown]; exact .of_is ReprIs.none _ _ _⟩
 | _, _, u, .bl b, r, _, _ => by
  cases (show u = Value.bool b from r)
  exact ⟨[], (fun _ h => nomatch h), by simp only [PyData.shown]; exact .of_is (ReprIs.bool b) _ _ _⟩
 | _, _, u, .int i, r, hs, _ => by
  obtain ⟨t, e⟩ := (show ∃ t, u = Value.int i t from r)
  subst e
  exact ⟨[], (fun _ h => nomatch h), by simp only [PyData.shown]; exact .of_is (ReprIs.int t (by simpa [PyData.showable] using hs)) _ _ _⟩
 | _, _, u, .str x, r, _, hz => by
  obtain ⟨t, e⟩ := (show ∃ t, u = Value.str x t from r)
  subst e
  exact ⟨[], (fun _ h => nomatch h), by simp only [PyData.shown]; exact .of_is (ReprIs.str x t (by simpa only [PyData.shown] using hz)) _ _ _⟩
 | _, _, u, .tup (p := a) (xs := xs) (ds := ds) n e q, r, hs, hz => by
  obtain ⟨cs, rd⟩ := TD.reads I (.tup n e q) r
  cases (show u = Value.ref a from r)
  obtain ⟨z, its, rv, p⟩ := (show ObjOk X.prog X.w H s.heap a (.tup xs) from I.hok a _ e)
  obtain ⟨o, h1, h2, k, h3⟩ := p.tup
  have hz2 : (tupleText (PyData.shownAll ds)).length <= sizeLine := by simpa only [PyData.shown] using hz
  obtain ⟨bs, hb, hk⟩ := TDs.repr I q rv (by simpa [PyData.showable] using hs) (fun t ht => Nat.le_trans (tupleText_mem_le ht) hz2)
  have hna : a ∉ bs := not_mem_of_deeper rd (by simp only [PyData.depth]; omega) hb
  refine ⟨a :: bs, ReadAtMost.cons rd (by simp only [PyData.depth]; omega) hb, ?_⟩
  (simp only [PyData.depth, PyData.shown])
  exact ReprK.tuple h1 h2 h3 hna (by simpa using hk)
 | _, _, u, .lst (p := a) (xs := xs) (ds := ds) n e q, r, hs, hz => by
  obtain ⟨cs, rd⟩ := TD.reads I (.lst n e q) r
  cases (show u = Value.ref a from r)
  obtain ⟨z, its, k, rv, h1⟩ := (show ObjOk X.prog X.w H s.heap a (.lst xs) from I.hok a _ e)
  have hz2 : (listText (PyData.shownAll ds)).length <= sizeLine := by simpa only [PyData.shown] using hz
  obtain ⟨bs, hb, hk⟩ := TDs.repr I q rv (by simpa [PyData.showable] using hs) (fun t ht => Nat.le_trans (listText_mem_le ht) hz2)
  have hna : a ∉ bs := not_mem_of_deeper rd (by simp only [PyData.depth]; omega) hb
  refine ⟨a :: bs, ReadAtMost.cons rd (by simp only [PyData.depth]; omega) hb, ?_⟩
  (simp only [PyData.depth, PyData.shown])
  cases its with
  | nil =>
   cases rv
   cases q
   (simp only [PyData.shownAll, listText_nil])
   exact ReprK.listEmpty h1 rfl rfl
  | cons x l => exact ReprK.list h1 rfl rfl hna (by simpa using hk.length_eq) (fun i y ey => hk.item i y (by simpa using ey))
 | _, _, u, .dct (p := a) n e, r, hs, hz => by
  obtain ⟨cs, rd⟩ := TD.reads I (.dct n e) r
  cases (show u = Value.ref a from r)
  obtain ⟨hsys, o, es, ep, h1, h2, h3, h4⟩ := dct_empty I e
  refine ⟨[a], ReadAtMost.cons (n := 0) rd (Nat.zero_le _) (fun _ h => nomatch h), ?_⟩
  (simp only [PyData.depth, PyData.shown, PyData.shownKv_eq])
  refine ReprK.dict (as := []) h1 h2 h3 hsys (by simp) (ReprEntriesK.of_two es.toList _ _ ?_ ?_)
  ·rw [h4]; exact .nil
  ·rw [h4]; exact .nil
 | _, _, u, .dc1 (p := a) (i := i) (d := d) n e q, r, hs, hz => by
  obtain ⟨cs, rd⟩ := TD.reads I (.dc1 n e q) r
  cases (show u = Value.ref a from r)
  obtain ⟨hsys, o, es, ep, hh, t, y, ry, h1, h2, h3, h4⟩ := dct_one I e
  have hs2 : PyData.showable (.int i) = true /\ d.showable = true := by simpa [PyData.showable, PyData.showableKv] using hs
  have hd1 : (PyData.dict [(.int i, d)]).depth = d.depth + 1 := by simp [PyData.depth, PyData.depthKv]
  have hz2 : d.shown.length <= sizeLine := Nat.le_trans (show1_le i d) hz
  obtain ⟨bs, hb, hk⟩ := TD.repr I q ry hs2.2 hz2
  have hna : a ∉ bs := not_mem_of_deeper rd (by rw [hd1]; omega) hb
  refine ⟨a :: bs, ReadAtMost.cons rd (by rw [hd1]; omega) hb, ?_⟩
  rw [hd1]
  simp only [PyData.shown, PyData.shownKv_eq]
  refine ReprK.dict h1 h2 h3 hsys hna (ReprEntriesK.of_two es.toList _ _ ?_ ?_)
  ·rw [h4]; exact .cons (.of_is (ReprIs.int t (by simpa [PyData.showable] using hs2.1)) _ _ _) .nil
  ·rw [h4]; exact .cons hk .nil
theorem TDs.repr (I : Inv X pins σ H s) : ∀ {vs : List V} {ds : List PyData} {us : List Value}, TDs as H vs ds -> Vals vs us -> PyData.showableAll ds = true -> (∀ t ∈ PyData.shownAll ds, t.length <= sizeLine) -> ∃ bs, ReadAtMost s.heap (PyData.depthAll ds) bs /\ ReprAllK X.prog X.w bs s.heap (PyData.depthAll ds) us (PyData.shownAll ds)
 | _, _, _, .nil, r, _, _ => by
  cases r
  exact ⟨[], (fun _ h => nomatch h), by simp only [PyData.shownAll]; exact .nil⟩
 | _, _, _, .cons (d := d) (ds := ds) a b, r, hs, hz => by
  cases r with
  | cons r1 r2 =>
   have hs2 : d.showable = true /\ PyData.showableAll ds = true := by simpa [PyData.showableAll] using hs
   obtain ⟨b1, hb1, k1⟩ := TD.repr I a r1 hs2.1 (hz _ (by simp only [PyData.shownAll]; exact List.mem_cons_self ..))
   obtain ⟨b2, hb2, k2⟩ := TDs.repr I b r2 hs2.2 (fun t ht => hz t (by simp only [PyData.shownAll]; exact List.mem_cons_of_mem _ ht))
   refine ⟨b1 ++ b2, (hb1.mono (by simp only [PyData.depthAll]; exact Nat.le_max_left _ _)).append (hb2.mono (by simp only [PyData.depthAll]; exact Nat.le_max_right _ _)), ?_⟩
   simp only [PyData.depthAll, PyData.shownAll]
   (exact .cons ((k1.more fun b hb => List.mem_append_left _ hb).level_le (Nat.le_max_left _ _)) (k2.more_le (fun b hb => List.mem_append_right _ hb) (Nat.le_max_right _ _)))
end
noncomputable def okE (d : PyData) : Bool := d.showable && decide (d.depth <= 64) && decide (d.shown.length <= sizeLine)
noncomputable def gReprE (ds : List D) (s : S) : R D := match ds with
 | [.da a] => if okE a = true then .ok (.str a.shown) s else .bad
 | _ => .bad
theorem c_reprE {k : Nat} (hr : Room k X.A) : CB X (.builtin "repr") gReprE := cb_of fun pins sh σ H as s xs ds us Q I rl rs ru h => by
 unfold gReprE at h
 split at h
 ·rename_i a
  obtain ⟨v, rfl, rv⟩ := rs.one
  obtain ⟨u, rfl, ru1⟩ := vals1 ru
  split at h
  ·rename_i ok
   unfold okE at ok
   (simp only [Bool.and_eq_true, decide_eq_true_eq] at ok)
   obtain ⟨⟨ok2, ok3⟩, ok4⟩ := ok
   have hun := hr.un
   have fin : Q (.str a.shown) H := Dn.now (Q := Q) h rl (.da (.str _))
   cases rv with
   | da t =>
    obtain ⟨cs, rd⟩ := TD.reads I t ru1
    cases t with
    | non => cases (show u = Value.none from ru1); exact PySem.P.repr_of_none ⟨.str "None", H, I.tok _, ⟨_, rfl⟩, fin⟩
    | bl b => cases (show u = Value.bool b from ru1); exact PySem.P.repr_of_bool ⟨.str (if b then "True" else "False"), H, I.tok _, ⟨_, rfl⟩, fin⟩
    | int i => obtain ⟨t, e⟩ := (show ∃ t, u = Value.int i t from ru1); subst e; exact PySem.P.repr_of_int (by simpa [PyData.showable] using ok2) ⟨.str (toString i), H, I.tok _, ⟨_, rfl⟩, fin⟩
    | str x => obtain ⟨t, e⟩ := (show ∃ t, u = Value.str x t from ru1); subst e; exact PySem.P.repr_of_str ⟨.str (reprText x), H, I.tok _, ⟨_, rfl⟩, fin⟩ (by simpa [PyData.shown] using ok4)
    | @tup p xs ds n e q =>
     cases (show u = Value.ref p from ru1)
     obtain ⟨z, its, rw, pp⟩ := (show ObjOk X.prog X.w H sh.heap p (.tup xs) from I.hok p _ e)
     obtain ⟨o, h1, h2, k, h3⟩ := pp.tup
     have hz2 : (tupleText (PyData.shownAll ds)).length <= sizeLine := by simpa only [PyData.shown] using ok4
     obtain ⟨bs, hb, hk⟩ := TDs.repr I q rw (by simpa [PyData.showable] using ok2) (fun t ht => Nat.le_trans (tupleText_mem_le ht) hz2)
     have hna : p ∉ bs := not_mem_of_deeper rd (by simp only [PyData.depth]; omega) hb
     simp only [PyData.depth] at ok3
     simp only [PyData.shown] at fin
     refine call_repr_slot (by omega) ⟨o, h1, h2⟩ F.slot_tuple_repr (call_tuple_reprK h1 h2 h3 hna (by simpa using hk) hr.gd (fun b _ => Clear.nil b) (by show X.A.units + 1 + _ < cLine; omega) (fun _ _ e => e) (fun h' u tk hk => ⟨_, _, rfl, .str _, H, I.kept hk, ⟨u, rfl⟩, fin⟩) hz2)
    | @lst p xs ds n e q =>
     cases (show u = Value.ref p from ru1)
     obtain ⟨z, its, k, rw, h1⟩ := (show ObjOk X.prog X.w H sh.heap p (.lst xs) from I.hok p _ e)
     have hz2 : (listText (PyData.shownAll ds)).length <= sizeLine := by simpa only [PyData.shown] using ok4
     obtain ⟨bs, hb, hk⟩ := TDs.repr I q rw (by simpa [PyData.showable] using ok2) (fun t ht => Nat.le_trans (listText_mem_le ht) hz2)
     have hna : p ∉ bs := not_mem_of_deeper rd (by simp only [PyData.depth]; omega) hb
     simp only [PyData.depth] at ok3
     simp only [PyData.shown] at fin
     refine call_repr_slot (by omega) ⟨_, h1, rfl⟩ F.slot_list_repr.toG ?_
     cases its with
     | nil =>
      cases rw
      cases q
      simp only [PyData.shownAll, listText_nil] at fin
      exact call_list_repr_empty ⟨_, h1, rfl⟩ h1 rfl ⟨_, _, rfl, .str _, H, I.tok _, ⟨_, rfl⟩, fin⟩
     | cons x l => exact call_list_reprK h1 rfl rfl hna (by simpa using hk.length_eq) (fun i y ey => hk.item i y (by simpa using ey)) hr.gd (fun b _ => Clear.nil b) (by show X.A.units + 1 + _ < cLine; omega) (fun _ _ e => e) (fun h' u tk hk => ⟨_, _, rfl, .str _, H, I.kept hk, ⟨u, rfl⟩, fin⟩) hz2
    | @dct p n e =>
     cases (show u = Value.ref p from ru1)
     obtain ⟨hsys, o, es, ep, h1, h2, h3, h4⟩ := dct_empty I e
     simp only [PyData.shown, PyData.shownKv_eq] at fin
     refine call_repr_slot (by omega) ⟨o, h1, h2⟩ F.slot_dict_repr (call_dict_reprK (as := []) (d := 0) h1 h2 h3 hsys (by simp) (ReprEntriesK.of_two es.toList [] [] (by rw [h4]; exact .nil) (by rw [h4]; exact .nil)) hr.gd (fun b _ => Clear.nil b) (by show X.A.units + 1 + _ < cLine; omega) (fun _ _ e => e) (fun h' u tk hk => ⟨_, _, rfl, .str _, H, I.kept hk, ⟨u, rfl⟩, fin⟩) (by decide +kernel))
    | @dc1 p i v d n e q =>
     cases (show u = Value.ref p from ru1)
     obtain ⟨hsys, o, es, ep, hh, t, y, ry, h1, h2, h3, h4⟩ := dct_one I e
     have hs2 : PyData.showable (.int i) = true /\ d.showable = true := by simpa [PyData.showable, PyData.showableKv] using ok2
     have hd1 : (PyData.dict [(.int i, d)]).depth = d.depth + 1 := by simp [PyData.depth, PyData.depthKv]
     obtain ⟨bs, hb, hk⟩ := TD.repr I q ry hs2.2 (Nat.le_trans (show1_le i d) ok4)
     have hna : p ∉ bs := not_mem_of_deeper rd (by rw [hd1]; omega) hb
     rw [hd1] at ok3
     simp only [PyData.shown, PyData.shownKv_eq] at fin ok4
     refine call_repr_slot (by omega) ⟨o, h1, h2⟩ F.slot_dict_repr (call_dict_reprK (d := d.depth) h1 h2 h3 hsys hna (ReprEntriesK.of_two es.toList _ _ (by rw [h4]; exact .cons (.of_is (ReprIs.int t (by simpa [PyData.showable] using hs2.1)) _ _ _) .nil) (by rw [h4]; exact .cons hk .nil)) hr.gd (fun b _ => Clear.nil b) (by show X.A.units + 1 + _ < cLine; omega) (fun _ _ e => e) (fun h' u tk hk => ⟨_, _, rfl, .str _, H, I.kept hk, ⟨u, rfl⟩, fin⟩) ok4)
  ·exact h.elim
 ·exact h.elim
end
end PF
namespace EX
open PySem PySem.W PySem.Spec PySem.Calls PyProof.Rows Builtin Builtin.ObjectAttr
abbrev bmV : List Value := [.type "ValueError", .type "Exception", .type "BaseException", .type "object"]
inductive Above : List Value -> Prop
 | base : Above bmV
 | own (a : Addr) {l : List Value} : Above l -> Above (.ref a :: l)
theorem Above.has {T : String} {b : Bool} (hb : bmV.contains (.type T) = b) {l : List Value} (x : Above l) : l.contains (.type T) = b := by
 induction x with
 | base => exact hb
 | own a _ ih => rw [List.contains_cons, ih]; rfl
theorem Above.refuse (self : Value) {l : List Value} (x : Above l) : refuseLoop self "__setattr__" l = pure () := by
 induction x with
 | base => exact PySem.F.store_ValueError.passes self
 | own a _ ih => rw [refuseLoop_ref, ih]
structure ClsE (K : Frag) (C : Addr) : Prop where
 at_ : ∃ nm q N bs bm sn sub ab col dd k0 k1 k2 k3 k5, K.lookup C = some (excClassObj nm q C N bs bm true sn sub ab col dd k0 k1 k2 k3 k5 "ValueError.__new__") /\ Above bm
 ga : findIn K (.ref C) "__getattribute__" = some (some (.builtin "BaseException.__getattribute__"))
 gt : findIn K (.ref C) "__getattr__" = some none
 sa : findIn K (.ref C) "__setattr__" = some (some (.builtin "object.__setattr__"))
section
variable {K : Frag} {C : Addr}
theorem ClsE.cd (c : ClsE K C) : ∃ cd, clsIn K C = some cd /\ cd.hasDict = true /\ ∃ bm, cd.mro = .ref C :: bm /\ Above bm := by
 obtain ⟨nm, q, N, bs, bm, sn, sub, ab, col, dd, k0, k1, k2, k3, k5, e, a⟩ := c.at_
 exact ⟨_, by unfold clsIn; rw [e], rfl, bm, rfl, a⟩
theorem ClsE.dict (c : ClsE K C) : hasDictIn K C = true := by
 obtain ⟨cd, e, h, _⟩ := c.cd
 unfold hasDictIn; rw [e]; exact h
theorem ClsE.sub (c : ClsE K C) {T : String} {b : Bool} (hb : bmV.contains (.type T) = b) : mroIn K C (.type T) = some b := by
 obtain ⟨cd, e, h, bm, em, a⟩ := c.cd
 unfold mroIn
 rw [e, Option.bind_some, em, if_neg (by simp), List.contains_cons, a.has hb]; rfl
end
section
variable {prog : Program} {w : World} {A : Around} {E : Value -> Shared -> Prop} {s : Shared} {K : Frag} {x C : Addr} {ox : Obj} {od : Option Obj} {name : Str}
theorem bga_by {tk : Tok} {fill expr : Bool} {Q : Value -> Shared -> Prop} (X : K.In s.heap) (I : InstAt s.heap x ox C od) (c : ClsE K C)
  (h : wpAny (model prog w) A.in1 (Builtin.«object.__getattribute__» ⟨[.ref x, .str name tk], []⟩) (fun fin s' => match fin with | .done (.ret v) => wpAny (model prog w) A (handedOut v) Q E s' | _ => False) (fun _ _ => False) s) :
  wpAny (model prog w) A (getAttrBy (.ref x) (.str name tk) fill expr) Q E s := by
 (have L0 := I.type (M := model prog w))
 have L1 := looks_findIn (M := model prog w) X c.ga
 unfold getAttrBy
 refine wpAny_holding (wpAny_bind (L0 _ _ _ _ (fun _ _ e => e) (wpAny_bind (L1 _ _ _ _ (fun _ _ e => e) ?_))))
 dsimp only
 rw [show (onTheHeap (Value.ref C) && Value.builtin "BaseException.__getattribute__" == Value.builtin "object.__getattribute__") = false from by rw [show (Value.builtin "BaseException.__getattribute__" == Value.builtin "object.__getattribute__") = false from by decide +kernel, Bool.and_false], if_neg (by decide)]
 unfold getAttrByItsOwn
 refine wpAny_bind ((looks_hook (M := model prog w) (r := none) X (by rw [if_pos (show onTheHeap (Value.ref C) = true from rfl)]; exact c.gt)) _ _ _ _ (fun _ _ e => e) (wpAny_bind (wpAny_attempt (wpAny_holding ?_))))
 unfold callGetattribute
 rw [show (expr && onTheHeap (Value.builtin "BaseException.__getattribute__")) = false from Bool.and_false _, if_neg (by decide)]
 unfold boundAndCalled
 rw [PySem.F.attr_ValueError.ga.bind]
 refine wpAny_bind (wpAny_pure ?_)
 show wpAny _ _ (call (.builtin "BaseException.__getattribute__") [.ref x, .str name tk]) _ _ _
 refine wpAny_call (codeAny_call_builtin PySem.F.attr_ValueError.ga.plain PySem.F.entry_bexc_ga ?_)
 refine @check_slot (model prog w) _ _ s "BaseException.__getattribute__" "BaseException" "__getattribute__" (.ref x) [.str name tk] [] _ (by decide +kernel) (by decide +kernel) (L0.andThen (looks_mroIn X (c.sub (by decide +kernel)))) (PySem.F.args_bexc_ga (.ref x) (.str name tk)) ?_
 refine wpAny_mono h (fun fin s' z => ?_) fun _ _ z => z.elim
 (rcases fin with (_ | _ | _ | _) | _ <;> first | exact z | exact z.elim)
theorem bga_value {v : Value} {tk : Tok} {Q : Fin -> Shared -> Prop} (X : K.In s.heap) (I : InstAt s.heap x ox C od) (hf : findObj K C od name = some (.value v)) (h : Q (.done (.ret v)) s) :
  wpAny (model prog w) A (Builtin.«object.__getattribute__» ⟨[.ref x, .str name tk], []⟩) Q E s := by
 (have L0 := I.type (M := model prog w))
 (have L1 := looks_find (M := model prog w) X I hf)
 exact wpAny_bind (wpAny_pure (wpAny_bind (wpAny_pure (wpAny_bind (L0.here (wpAny_bind (L1.here (wpAny_pure h))))))))
theorem bga_bind {g a : Value} {tk : Tok} {P : Value -> Shared -> Prop} (X : K.In s.heap) (I : InstAt s.heap x ox C od) (hf : findObj K C od name = some (.bind g a))
  (h : wpAny (model prog w) A (call g [a, .ref x, .ref C]) P E s) :
  wpAny (model prog w) A (Builtin.«object.__getattribute__» ⟨[.ref x, .str name tk], []⟩) (fun fin s' => match fin with | .done (.ret v) => P v s' | _ => False) E s := by
 (have L0 := I.type (M := model prog w))
 (have L1 := looks_find (M := model prog w) X I hf)
 refine wpAny_bind (wpAny_pure (wpAny_bind (wpAny_pure (wpAny_bind (L0.here (wpAny_bind (L1.here ?_)))))))
 show wpAny _ _ (holding [a] (call g [a, .ref x, .ref C]) >>= ret) _ _ _ --
 (exact wpAny_bind (wpAny_holding (wpAny_mono h (fun v s' z => wpAny_pure z) fun _ _ z => z)))
theorem get_exc {v : Value} {expr : Bool} {Q : Value -> Shared -> Prop} (X : K.In s.heap) (I : InstAt s.heap x ox C od) (c : ClsE K C) (hf : findObj K C od name = some (.value v)) (hh : handedIn v = true) (h : Q v { s with toks := s.toks + 1 }) :
  wpAny (model prog w) A (getAttr (.ref x) name expr) Q E s := by
 unfold getAttr
 refine wpAny_bind (wpAny_mkText (bga_by (s := { s with toks := s.toks + 1 }) X I c (bga_value (s := { s with toks := s.toks + 1 }) X I hf ?_)))
 exact handed_on hh h
theorem class_exc {Q : Option Value -> Shared -> Prop} (X : K.In s.heap) (I : InstAt s.heap x ox C od) (c : ClsE K C) (ha : findIn K (.ref C) "__class__" = some (some (.builtin "object.__class__")))
  (hn : specialIn K (.builtin "object.__class__") "__get__" = some (some (.builtin "getset_descriptor.__get__"))) (htk : takesIn K (.builtin "object.__class__") = some true) (h : Q (some (.ref C)) { s with toks := s.toks + 1 }) :
  wpAny (model prog w) A (getAttr? (.ref x) "__class__") Q E s := by
 have hf : findObj K C od "__class__" = some (.bind (.builtin "getset_descriptor.__get__") (.builtin "object.__class__")) := by
  obtain ⟨cd, hc, _⟩ := c.cd
  unfold findObj
  rw [hc, ha, Option.bind_some, Option.bind_some]
  dsimp only
  rw [hn, Option.bind_some]
  dsimp only
  rw [htk]; rfl
 unfold getAttr? getAttrBy?
 refine wpAny_bind (wpAny_mkText (wpAny_bind (wpAny_attempt (bga_by (s := { s with toks := s.toks + 1 }) X I c (bga_bind (s := { s with toks := s.toks + 1 }) X I hf
  (wpAny_call (class_get (s := { s with toks := s.toks + 1 }) (ox := ox) (od := od) X I (c.sub (by decide +kernel)) (handed_on rfl ?_))))))))
 exact wpAny_pure h
theorem kitx_exc (c : ClsE K C) (ha : findIn K (.ref C) "__class__" = some (some (.builtin "object.__class__")))
  (hn : specialIn K (.builtin "object.__class__") "__get__" = some (some (.builtin "getset_descriptor.__get__"))) (htk : takesIn K (.builtin "object.__class__") = some true) :
  KitX K (.ref x) (.ref C) (fun h => InstAt h x ox C od) where
 ty := fun _ _ _ I => I.type
 it := fun _ _ X _ => by
  obtain ⟨nm, q, N, bs, bm, sn, sub, ab, col, dd, k0, k1, k2, k3, k5, e, a⟩ := c.at_
  intro A' Q' E' s' k z
  unfold isType loadHead
  exact wpAny_bind (wpAny_loadPart (k _ _ (X _ _ e)) (wpAny_pure z))
 ne := fun h tp dd' its n sl X htp => by
  obtain ⟨nm, q, N, bs, bm, sn, sub, ab, col, dd, k0, k1, k2, k3, k5, e, a⟩ := c.at_
  refine Bool.eq_false_iff.mpr fun z => ?_
  have e' : C = tp := Value.ref.inj (beq_iff_eq.mp z)
  subst e'
  have z := congrArg Obj.cls (Option.some.inj ((X _ _ e).symm.trans htp))
  exact absurd (Value.type.inj z) (by decide)
 ca := fun X I k => class_exc X I c ha hn htk k
theorem osa_exc {tk : Tok} {v : Value} {R : Result -> Shared -> Prop} (X : K.In s.heap) (I : InstAt s.heap x ox C od) (c : ClsE K C) (hn : findIn K (.ref C) name = some none)
  (h : wpAny (model prog w) A.in1 (storeInOwnDict (.ref x) (.ref C) (.str name tk) name v false)
   (fun fin s' => match fin with | .done f => R (.ok f) s' | .again c' => c'.quiet = true /\ codeAny (model prog w) A c' R s') (fun e s' => R (.error e) s') s) :
  codeAny (model prog w) A (.call (.builtin "object.__setattr__") ⟨[.ref x, .str name tk, v], []⟩) R s := by --
 (have SF := PySem.F.store_object)
 obtain ⟨cd, hc, hd, bm, em, ab⟩ := c.cd
 have sub : Looks (model prog w) s.heap (isInstance (.ref x) (.type "object")) true := I.type.andThen (looks_mroIn X (c.sub (by decide +kernel)))
 (refine codeAny_call_builtin SF.slot.plain SF.entry (@check_slot (model prog w) _ _ s "object.__setattr__" "object" "__setattr__" (.ref x) [.str name tk, v] [] _ SF.kind SF.split sub (SF.args (.ref x) (.str name tk) v) ?_))
 (have hm : Looks (model prog w) s.heap (mroOf (.ref C)) cd.mro := (looks_clsIn X hc).andThen .now)
 rw [osa_eq, refuse_eq]
 (refine wpAny_bind (wpAny_bind (I.type.here (wpAny_bind (hm.here ?_)))))
 rw [em, refuseLoop_ref, ab.refuse]
 exact wpAny_pure (wpAny_bind (I.type.here (wpAny_bind ((looks_findIn X hn).here (wpAny_bind (wpAny_pure h))))))
variable {dx t : Addr} {mA : Str -> Option Value} {ns : List Str} {v : Value} {Q : Unit -> Shared -> Prop}
abbrev exO (C : Addr) (dx : Option Addr) (t : Addr) : Obj := { cls := .ref C, dict := dx, data := .fields #[.ref t, .none, .none, .none, .bool false, .none] }
theorem inst_of0 (hx : s.heap.get? x = some (exO C none t)) : InstAt s.heap x (exO C none t) C none := ⟨hx, rfl, rfl, True.intro⟩
theorem set_some (X : K.In s.heap) (c : ClsE K C) (hn : findIn K (.ref C) name = some none) (hx : s.heap.get? x = some (exO C (some dx) t)) (N : s.heap.Ns1 dx mA) (ne : dx ≠ x)
  (hw : PySem.Within mA ns) (hsz : ns.length <= sizeLine)
  (h : ∀ h', h'.Ns1 dx (fun y => if y = name then some v else mA y) -> Heap.SameBut dx s.heap h' -> Q () { s with heap := h', toks := s.toks + 2 }) :
  wpAny (model prog w) A (setAttr (.ref x) name v) Q E s := by
 obtain ⟨o, es, ep, e1, e2⟩ := id N
 have I : InstAt s.heap x (exO C (some dx) t) C (some o) := ⟨hx, rfl, rfl, e1⟩
 obtain ⟨cd, hc, hd, _⟩ := c.cd
 refine PySem.W.set_plain X I c.sa (osa_exc (s := { s with toks := s.toks + 1 }) X I c hn ?_)
 refine wpAny_bind (wpAny_pure (wpAny_bind (wpAny_bind (wpAny_loadPart hx (wpAny_bind (PySem.W.Looks.here (s := { s with toks := s.toks + 1 }) (PySem.W.looks_clsIn X hc) ?_))))))
 rw [hd]
 refine wpAny_pure (a := some dx) (wpAny_bind (wpAny_pure (wpAny_bind ?_)))
 refine wpAny_nsSet1 (s := { s with toks := s.toks + 1 }) N fun h' hn2 hs2 => ?_
 obtain ⟨oD, esD, epD, hoD, hdD, hcD⟩ := hn2.count (PySem.Within.cons name v hw)
 refine wpAny_bind (wpAny_lookBehind hoD (by rw [hdD]; exact pastItsLine_dict (Nat.le_trans hcD (by rw [List.length_cons]; omega))) ?_)
 exact wpAny_pure (h _ hn2 hs2)
theorem set_none (X : K.In s.heap) (c : ClsE K C) (hn : findIn K (.ref C) name = some none) (hx : s.heap.get? x = some (exO C none t))
  (h : ∀ h', h'.get? x = some (exO C (some s.heap.objs.size) t) -> h'.Ns1 s.heap.objs.size (fun y => if y = name then some v else none) -> (∀ b o, b ≠ x -> s.heap.get? b = some o -> h'.get? b = some o) ->
   Q () { s with heap := h', toks := s.toks + 2 }) :
  wpAny (model prog w) A (setAttr (.ref x) name v) Q E s := by
 have I := inst_of0 hx
 obtain ⟨cd, hc, hd, _⟩ := c.cd
 refine PySem.W.set_plain X I c.sa (osa_exc (s := { s with toks := s.toks + 1 }) X I c hn ?_)
 refine wpAny_bind (wpAny_pure (wpAny_bind (wpAny_bind (wpAny_loadPart hx (wpAny_bind (PySem.W.Looks.here (s := { s with toks := s.toks + 1 }) (PySem.W.looks_clsIn X hc) ?_))))))
 rw [hd]
 have hx1 : (s.heap.push { cls := .type "dict", data := .dict #[] }).get? x = some (exO C none t) := Heap.get?_push_of_some _ hx
 have hxs : x ≠ s.heap.objs.size := Nat.ne_of_lt (Heap.lt_size hx)
 refine wpAny_bind (wpAny_alloc' (wpAny_bind (wpAny_update' hx1 ?_)))
 refine wpAny_pure (wpAny_bind (wpAny_pure (wpAny_bind ?_)))
 have hgd : ((s.heap.push { cls := .type "dict", data := .dict #[] }).update x fun o => { cls := o.cls, dict := some s.heap.objs.size, data := o.data, slots := o.slots }).get? s.heap.objs.size
   = some { cls := .type "dict", data := .dict #[] } := (Heap.get?_update_ne _ _ _ _ hxs.symm).trans (Heap.get?_push_at rfl rfl)
 have hnd : ((s.heap.push { cls := .type "dict", data := .dict #[] }).update x fun o => { cls := o.cls, dict := some s.heap.objs.size, data := o.data, slots := o.slots }).Ns s.heap.objs.size (fun _ => none) :=
  ⟨_, #[], _, hgd, rfl, fun e he => absurd he (by simp), fun _ => rfl⟩ --
 refine wpAny_nsSet1 (Heap.Ns1.of_empty hnd) fun h' hn' hs => ?_
 (obtain ⟨oD, esD, epD, hoD, hdD, hcD⟩ := hn'.count (Within.cons name v Within.nil))
 (refine wpAny_bind (wpAny_lookBehind hoD (by rw [hdD]; exact pastItsLine_dict (Nat.le_trans hcD (by rw [List.length_cons, List.length_nil, sizeLine_eq]; omega))) ?_))
 refine wpAny_pure (h _ ?_ hn' fun b o hb e => ?_)
 ·exact (hs.2 x hxs).trans (Heap.get?_update_self _ hx1 rfl)
 ·exact (hs.2 b (Nat.ne_of_lt (Heap.lt_size e))).trans ((Heap.get?_update_ne _ _ _ _ hb).trans (Heap.get?_push_of_some _ e))
end
end EX
namespace EX
open PySem PySem.W PySem.Spec PySem.Calls PyProof.Rows Builtin Builtin.ObjectAttr
section
variable {prog : Program} {w : World} {A : Around} {E : Value -> Shared -> Prop} {h : Heap} {g : Array GenState} {d : Drawn} {t : Nat} {os : OsState}
variable {nm q : Str} {C N : Addr} {bs bm : List Value} {hdct : Bool} {sn : List Str} {sub : List Value} {ab : Bool} {col : Option Bool} {dd : Option Addr} {k0 k1 k2 k3 k5 : Option Value}
theorem check_initE (a : Above bm) {M : Model} {e : Addr} {oe : Obj} {rest : List Value} {Q : Unit -> Shared -> Prop}
  (hC : h.get? C = some (excClassObj nm q C N bs bm hdct sn sub ab col dd k0 k1 k2 k3 k5 "ValueError.__new__")) (he : h.get? e = some oe) (hcls : oe.cls = .ref C) (hq : Q () ⟨h, g, d, t, os⟩) :
  wpAny M A (checkBuiltinCall "ValueError.__init__" ⟨.ref e :: rest, []⟩) Q E ⟨h, g, d, t, os⟩ := by
 have F := PySem.F.excBase_ValueError
 have hcB : (Value.ref C :: bm).contains (.type "ValueError") = true := by rw [List.contains_cons, a.has (T := "ValueError") (b := true) (by decide +kernel), Bool.or_true]
 have hshort := F.noStar
 (simp only [checkBuiltinCall, F.initKind, F.initSplit, F.initRow])
 repeat (first | (with_reducible refine wpAny_loadPart_at he ?_; rw [hcls]) | with_reducible refine wpAny_loadPart_at hC ?_ | (with_reducible refine wpAny_isSubtype_exc hC ?_; rw [hcB]) | wp_step) --
 refine wpAny_onRaise ?_
 rw [show ∀ (a b : String) (n : Nat), Bind.check ⟨.positional, "*", "ValueError", .self, [⟨"args", .varPos, false⟩]⟩ a b n (List.map (fun x => x.fst) ({ pos := Value.ref e :: rest } : Args).kw) = pure () from
  fun a b n => check_star_args _ _ _ _ _ _] --
 exact wpAny_pure hq
theorem init_exc (a : Above bm) {e t0 : Addr} {dx : Option Addr} {rest : List Value} {Q : Value -> Shared -> Prop}
  (hC : h.get? C = some (excClassObj nm q C N bs bm hdct sn sub ab col dd k0 k1 k2 k3 k5 "ValueError.__new__")) (he : h.get? e = some (exO C dx t0))
  (hq : ∀ h', h'.get? e = some (exO C dx h.objs.size) -> (∀ b o, b ≠ e -> h.get? b = some o -> h'.get? b = some o) -> Q .none ⟨h', g, d, t, os⟩) (hrest : rest.length <= sizeLine) :
  wpAny (model prog w) A (call (.builtin "ValueError.__init__") (.ref e :: rest)) Q E ⟨h, g, d, t, os⟩ := by
 have F := PySem.F.excBase_ValueError
 refine wpAny_call (codeAny_call_builtin F.init.plain F.initEntry (check_initE a hC he rfl ?_))
 (unfold Builtin.«BaseException.__init__»)
 dsimp only
 rw [if_neg (by simp)]
 (unfold newTuple Builtin.BaseException.bexcPut)
 have he1 := Heap.get?_push_of_some (h := h) { cls := .type "tuple", data := .seq rest.toArray } he
 refine wpAny_bind (wpAny_newObj_type (wpAny_bind (wpAny_bind (wpAny_field (vs := #[.ref t0, .none, .none, .none, .bool false, .none]) (x := .ref t0) he1 rfl rfl (wpAny_bind (wpAny_setField (vs := #[.ref t0, .none, .none, .none, .bool false, .none]) he1 rfl (by simp) ?_))))) (by show rest.toArray.size <= sizeLine; rw [List.size_toArray]; exact hrest))
 refine wpAny_letGo (wpAny_pure (hq _ ?_ fun b o hb e' => ?_))
 ·rw [Heap.get?_update_self _ he1 rfl]
  rfl
 ·rw [Heap.get?_update_other _ _ (Ne.symm hb)]
  exact Heap.get?_push_of_some _ e'
theorem check_newE (a : Above bm) {M : Model} {rest : List Value} {Q : Unit -> Shared -> Prop} (hC : h.get? C = some (excClassObj nm q C N bs bm hdct sn sub ab col dd k0 k1 k2 k3 k5 "ValueError.__new__"))
  (hq : Q () ⟨h, g, d, t, os⟩) : wpAny M A (checkBuiltinCall "ValueError.__new__" ⟨.ref C :: rest, []⟩) Q E ⟨h, g, d, t, os⟩ := by
 have F := PySem.F.excBase_ValueError
 have hcont : (Value.ref C :: bm).contains (.type "ValueError") = true := by rw [List.contains_cons, a.has (T := "ValueError") (b := true) (by decide +kernel), Bool.or_true]
 have hstar := F.noStar
 (simp only [checkBuiltinCall, F.newKind, F.newSplit, F.newRow])
 repeat (first | refine wpAny_loadPart_at hC ?_ | (refine wpAny_isSubtype_exc hC ?_; rw [hcont]) | refine wpAny_staticBase_exc hC ?_ | refine wpAny_madeBy_exc hC ?_ | simp only [bne_self_eq_false, Bool.false_eq_true, if_false] | wp_step) --
 exact hq
theorem new_exc (a : Above bm) {rest : List Value} {R : Result -> Shared -> Prop} (hC : h.get? C = some (excClassObj nm q C N bs bm hdct sn sub ab col dd k0 k1 k2 k3 k5 "ValueError.__new__"))
  (hq : R (.ok (.ret (.ref (h.objs.size + 1)))) ⟨(h.push { cls := .type "tuple", data := .seq rest.toArray }).push (exO C none h.objs.size), g, d, t, os⟩) (hrest : rest.length <= sizeLine) :
  codeAny (model prog w) A (.builtin "ValueError.__new__" ⟨.ref C :: rest, []⟩) R ⟨h, g, d, t, os⟩ := by
 have F := PySem.F.excBase_ValueError
 have hends := F.ends
 have hcB : (Value.ref C :: bm).contains (.type "ValueError") = true := by rw [List.contains_cons, a.has (T := "ValueError") (b := true) (by decide +kernel), Bool.or_true]
 have hcA : (Value.ref C :: bm).contains (.type "AttributeError") = false := by rw [List.contains_cons, a.has (T := "AttributeError") F.noAttr]; rfl
 have hcN : (Value.ref C :: bm).contains (.type "NameError") = false := by rw [List.contains_cons, a.has (T := "NameError") F.noName]; rfl
 (refine codeAny_builtinAt F.entry ?_)
 (unfold Builtin.«BaseException.__new__»)
 refine PySem.wpAt_bind ?_
 show PySem.wpAt _ _ _ (stack >>= _) _ _ _
 refine PySem.wpAt_bind (PySem.wpAt_stack fun p below => PySem.wpAt_of_wpAny ?_)
 wp_walk
 refine PySem.wpAt_of_wpAny ?_
 rw [F.owner]
 repeat (first | with_reducible refine wpAny_madeHere_exc F.canon hC ?_ | with_reducible refine wpAny_loadPart_at hC ?_ | (with_reducible refine wpAny_isSubtype_exc hC ?_; first | rw [hcB] | rw [hcA] | rw [hcN]) | wp_step) --
 show R _ _
 rw [Heap.size_push]
 exact hq
theorem make_exc {K : Frag} {f : Addr} {rest : List Value} {Q : Value -> Shared -> Prop} (X : K.In h) (c : ClsE K C) (hi : findIn K (.ref C) "__init__" = some (some (.ref f))) (hf : typeIn K (.ref f) = some (.type "function"))
  (hq : codeAny (model prog w) (A.under (.builtin "type.__call__" ⟨.ref C :: rest, []⟩)) (.call (.ref f) ⟨.ref (h.objs.size + 1) :: rest, []⟩) (fun r s' => match r with
    | .ok (.ret v) => v = .none /\ Q (.ref (h.objs.size + 1)) s'
    | .ok _ => False
    | .error e => E e s') ⟨(h.push { cls := .type "tuple", data := .seq rest.toArray }).push (exO C none h.objs.size), g, d, t, os⟩) (hrest : rest.length <= sizeLine) :
  wpAny (model prog w) A (call (.ref C) rest) Q E ⟨h, g, d, t, os⟩ := by --
 have F := PySem.F.excBase_ValueError
 obtain ⟨nm, q, N, bs, bm, sn, sub, ab, col, dd, k0, k1, k2, k3, k5, e, a⟩ := c.at_
 have hC := X _ _ e
 have f1 := tc_lookup
 have f2 := tc_bind (.ref C)
 (have hT : (⟨h, g, d, t, os⟩ : Shared).TypeIs (.ref C) "type" := ⟨_, hC, rfl⟩)
 (refine wpAny_call (codeAny_of_tree ?_))
 show wpAny _ _ (callAny (.ref C) _) _ _ _ --
 repeat (any_goals (first | assumption | with_reducible refine wpAny_loadPart_at hC ?_ | wp_step)) --
 refine ⟨rfl, ?_⟩
 refine codeAny_call_builtin_at (Code.quiet_builtin _ (by decide +kernel)) entry_typeCall (wpAny_check_type_call_sub hC ?_)
 repeat (first | with_reducible refine wpAny_loadPart_at hC ?_ | with_reducible refine wpAny_madeBy_exc hC ?_ | wp_step) --
 refine codeAny_call_builtin_code (Code.quiet_builtin _ F.quiet) (check_newE a hC ?_)
 refine new_exc a hC ?_ hrest
 show wpAny _ _ _ _ _ _
 have k : ∀ b o, h.get? b = some o -> ((h.push { cls := .type "tuple", data := .seq rest.toArray }).push (exO C none h.objs.size)).get? b = some o := fun b o e => Heap.get?_push_of_some _ (Heap.get?_push_of_some _ e)
 have hC₁ := k _ _ hC
 have hget : ((h.push { cls := .type "tuple", data := .seq rest.toArray }).push (exO C none h.objs.size)).get? (h.objs.size + 1) = some { cls := .ref C, data := .fields #[.ref h.objs.size, .none, .none, .none, .bool false, .none] } := by heap_get
 (have hcC : (Value.ref C :: bm).contains (.ref C) = true := by simp)
 unfold isInstance
 repeat (first | with_reducible refine wpAny_loadPart_at hget ?_ | (with_reducible refine wpAny_isSubtype_exc hC₁ ?_; rw [hcC]) | wp_step) --
 (refine wpAny_isSubtype_exc hC₁ ?_; rw [hcC])
 repeat (first | with_reducible refine wpAny_loadPart_at hget ?_ | wp_step)
 show wpAny _ _ (typeLookup (.ref C) _) _ _ _ --
 have L1 := (looks_findIn (M := model prog w) X hi).keeps k
 have L2 := (bind_fn (M := model prog w) X (.ref (h.objs.size + 1)) hf).keeps k
 refine L1.at ?_
 refine wpAny_holding (wpAny_bind (L2.at (wpAny_bind (wpAny_call (codeAny_mono hq fun r s' z => ?_)))))
 (rcases r with e | (v | _ | _ | _) <;> first | exact z | exact z.elim | skip)
 obtain ⟨rfl, hQ⟩ := z
 wp_walk
 exact hQ
end
end EX
namespace L2
open PySem PySem.Spec PyProof.Rows EX
structure ClsX (K : PySem.W.Frag) (C : Addr) : Prop extends ClsE K C where
 ca : PySem.W.findIn K (.ref C) "__class__" = some (some (.builtin "object.__class__"))
 cg : PySem.W.specialIn K (.builtin "object.__class__") "__get__" = some (some (.builtin "getset_descriptor.__get__"))
 ct : PySem.W.takesIn K (.builtin "object.__class__") = some true
section
variable {X : Cx} {pins : List (Addr × Obj)} {σ : St} {H : Hp} {s : Shared} {a C : Addr} {fs : List (Str × V)} {f : Str} {v : V} {A : Around} {E : Value -> Shared -> Prop}
theorem exn_get (hok : HOk X.prog X.w H s.heap) (e : H a = some (.exn C fs)) : fs.length <= 1000 /\ ∃ (t : Addr) (dxo : Option Addr), s.heap.get? a = some (excO C dxo t) /\ ((dxo = none /\ fs = []) \/ ∃ dx, dxo = some dx /\ H dx = some (.own a) /\ dx ≠ a /\
   ∃ mA, s.heap.Ns1 dx mA /\ (∀ f, RelO (fs.lookup f) (mA f)) /\ PySem.Within mA (fs.map (·.1))) :=
 (show ObjOk X.prog X.w H s.heap a (.exn C fs) from hok a _ e)
theorem getattrX_ok {b : Bool} {Q : Value -> Shared -> Prop} (I : Inv X pins σ H s) (e : H a = some (.exn C fs)) (c : ClsX X.K C) (n : NoAttr X.K C f) (l : fs.lookup f = some v)
  (h : ∀ u s', Inv X pins σ H s' -> RelV v u -> Q u s') : wpAny (model X.prog X.w) A (getAttr (.ref a) f b) Q E s := by
 obtain ⟨_, t, dxo, hx, ⟨_, q⟩ | ⟨dx, q, ho, ne, mA, N, r, wi⟩⟩ := exn_get I.hok e
 ·rw [q] at l; cases l
 ·subst q
  obtain ⟨u, hu, ru⟩ := RelO.some_of (v := v) (o := mA f) (by rw [← l]; exact r f)
  obtain ⟨od, hod, hl⟩ := lookIn_ns N
  exact get_exc I.kIn (ox := excO C (some dx) t) (od := some od) ⟨hx, rfl, rfl, hod⟩ c.toClsE (PySem.W.findObj_own c.toClsE.dict n rfl (by rw [hl, hu])) (handed_of ru) (h u _ (I.tok _) ru)
theorem setattrX_ok {y : V} {u : Value} {Q : Unit -> Shared -> Prop} (I : Inv X pins σ H s) (e : H a = some (.exn C fs)) (c : ClsX X.K C) (n : NoAttr X.K C f) (hl : fs.length < 1000) (ry : RelV y u)
  (h : ∀ s' H1, (H1 = H \/ ∃ dx, H dx = none /\ H1 = upd H dx (.own a)) -> Inv X pins σ (upd H1 a (.exn C (putF f y fs))) s' -> Q () s') : wpAny (model X.prog X.w) A (setAttr (.ref a) f u) Q E s := by
 have hlen : (putF f y fs).length <= 1000 := by have := length_putF f y fs; omega
 obtain ⟨_, t, dxo, hx, ⟨q, q2⟩ | ⟨dx, q, ho, ne, mA, N, r, wi⟩⟩ := exn_get I.hok e
 ·subst q
  have hz : s.heap.objs.size ≠ a := Ne.symm (Nat.ne_of_lt (Heap.lt_size hx))
  refine EX.set_none I.kIn c.toClsE n hx fun h' hx' N' k => ?_
  obtain ⟨od, es, ep, hod, hc⟩ := id N'
  have hf : od.isFreed = false := (Heap.get?_some_iff.mp hod).2
  have e1 : (s.heap.push od).get? s.heap.objs.size = some od := Heap.get?_push_size s.heap hf
  have I1 := I.laid (a := s.heap.objs.size) (o := .own a) (h' := s.heap.push od) (t' := s.toks) (fun b u q => Heap.get?_push_of_some _ q) (Nat.le_refl _) ⟨_, e1⟩
  have ea : upd H s.heap.objs.size (.own a) a = some (.exn C fs) := by rw [upd_ne (Ne.symm hz)]; exact e
  refine h _ _ (.inr ⟨_, I.hok.fresh (Nat.le_refl _), rfl⟩) (I1.write (x := a) (e := a) (h' := h') (t' := s.toks + 2) (by rw [ea]; exact True.intro) (.inl rfl) (fun b v hb z => ?_) ⟨_, hx'⟩ ?_)
  ·by_cases hbs : b = s.heap.objs.size
   ·subst hbs
    have z : (s.heap.push od).get? s.heap.objs.size = some v := z
    rw [e1] at z; cases z; exact hod
   ·refine k b v hb ?_
    have z : (s.heap.push od).get? b = some v := z
    rwa [Heap.get?_push_ne s.heap b od hbs] at z
  ·refine ⟨hlen, t, some s.heap.objs.size, hx', .inr ⟨_, rfl, by rw [upd_ne hz, upd_same], hz, _, N', fun g => ?_, fun g hg => ?_⟩⟩
   ·show RelO ((putF f y fs).lookup g) (if g = f then some u else none)
    rw [lookup_putF]
    by_cases q : g = f
    ·rw [if_pos q, if_pos q]; exact ry
    ·rw [if_neg q, if_neg q, q2]; exact True.intro
   ·by_cases q : g = f
    ·rw [q]; exact (keys_putF f y fs).1
    ·exact absurd (by show (if g = f then some u else none) = none; rw [if_neg q]) hg
 ·subst q
  have hz : (fs.map (·.1)).length <= sizeLine := by rw [List.length_map, sizeLine_eq]; omega
  refine EX.set_some I.kIn c.toClsE n hx N ne wi hz fun h' N' sb => ?_
  have hd : ∃ o, h'.get? dx = some o := let ⟨o, _, _, e', _⟩ := N'; ⟨o, e'⟩
  refine h _ _ (.inl rfl) (I.write (x := a) (e := dx) (t' := s.toks + 2) (by rw [e]; exact True.intro) (.inr ho) (fun b q hb z => (sb.2 b hb).trans z) hd ?_)
  refine ⟨hlen, t, some dx, (sb.2 a (Ne.symm ne)).trans hx, .inr ⟨dx, rfl, by rw [upd_ne ne]; exact ho, ne, _, N', fun g => ?_, fun g hg => ?_⟩⟩
  ·show RelO ((putF f y fs).lookup g) (if g = f then some u else mA g)
   rw [lookup_putF]
   by_cases q : g = f
   ·rw [if_pos q, if_pos q]; exact ry
   ·rw [if_neg q, if_neg q]; exact r g
  ·by_cases q : g = f
   ·rw [q]; exact (keys_putF f y fs).1
   ·refine (keys_putF f y fs).2 g (wi g fun z => hg ?_)
    show (if g = f then some u else mA g) = none
    rw [if_neg q]; exact z
theorem isx_ok {c : Value} {b : Bool} {Q : Value -> Shared -> Prop} (I : Inv X pins σ H s) (e : H a = some (.exn C fs)) (cl : ClsX X.K C) (k : PySem.W.kitOne X.K (.ref C) c = some b) (h : ∀ tk, Q (.bool b) { s with toks := tk }) :
  wpAny (model X.prog X.w) A (call (.builtin "isinstance") [.ref a, c]) Q E s := by
 obtain ⟨_, t, dxo, hx, ⟨q, _⟩ | ⟨dx, q, ho, ne, mA, N, r, wi⟩⟩ := exn_get I.hok e
 ·subst q
  exact PySem.W.kia_one (EX.kitx_exc (ox := excO C none t) (od := none) cl.toClsE cl.ca cl.cg cl.ct) I.kIn ⟨hx, rfl, rfl, True.intro⟩ k (fun z => nomatch z) h
 ·subst q
  obtain ⟨od, es, ep, hod, hc⟩ := id N
  exact PySem.W.kia_one (EX.kitx_exc (ox := excO C (some dx) t) (od := some od) cl.toClsE cl.ca cl.cg cl.ct) I.kIn ⟨hx, rfl, rfl, hod⟩ k (fun z => nomatch z) h
theorem initX_ok {us : List Value} {Q : Value -> Shared -> Prop} (I : Inv X pins σ H s) (e : H a = some (.exn C fs)) (cl : ClsX X.K C) (hu : us.length <= sizeLine) (h : ∀ s', Inv X pins σ H s' -> Q .none s') :
  wpAny (model X.prog X.w) A (call (.builtin "ValueError.__init__") (.ref a :: us)) Q E s := by
 obtain ⟨z, t, dxo, hx, w⟩ := exn_get I.hok e
 obtain ⟨nm, q, N, bs, bm, sn, sub, ab, col, dd, k0, k1, k2, k3, k5, hK, av⟩ := cl.at_
 (obtain ⟨hp, g, d, tk, os⟩ := s)
 refine EX.init_exc (t := tk) av (I.kIn _ _ hK) hx (fun h' hx' k => h _ ?_) hu
 have hH : upd H a (.exn C fs) = H := by
  funext b; unfold upd; split
  ·rename_i y; subst y; exact e.symm
  ·rfl
 have := I.write (x := a) (e := a) (h' := h') (t' := tk) (o := .exn C fs) (by rw [e]; exact True.intro) (.inl rfl) (fun b v hb y => k b v hb y) ⟨_, hx'⟩ ?_
 ·rw [hH] at this; exact this
 ·rw [hH]
  refine ⟨z, hp.objs.size, dxo, hx', ?_⟩
  rcases w with w | ⟨dx, w1, ho, ne, mA, ⟨od, es, ep, e2, c⟩, r⟩
  ·exact .inl w
  ·exact .inr ⟨dx, w1, ho, ne, mA, ⟨od, es, ep, k _ _ ne e2, c⟩, r⟩
end
end L2
namespace L2
open PySem PySem.Spec PyProof.Rows EX
section
variable {X : Cx} {o e value : Expr} {es : List Expr} {f : Str} {pos pos' apos p : Pos} {ta tv : TE} {t : TA}
noncomputable def tFldX (K : PySem.W.Frag) (ta : TE) (f : Str) : TE := fun σ H Q => ta σ H fun x H1 => ∃ a C fs v, x = .ref a /\ H1 a = some (.exn C fs) /\ ClsX K C /\ NoAttr K C f /\ fs.lookup f = some v /\ Q v H1
theorem pe_fldX (he : PE X e ta) (hb : attributeBase e f X.env (eval e X.env) = eval e X.env) : PE X (.Attribute e f pos) (tFldX X.K ta f) := by
 refine ⟨?_⟩; intro pins s σ H Q I h
 refine attr_of hb (thn (he pins s σ H _ I h) fun u s1 ⟨x, H1, I1, rx, a, C, fs, v, ex, ea, c, n, l, q⟩ => ?_)
 subst ex
 obtain rfl : u = Value.ref a := rx
 exact getattrX_ok I1 ea c n l fun u' s2 I2 ru => ⟨v, H1, I2, ru, q⟩
noncomputable def sFldX (K : PySem.W.Frag) (ta tv : TE) (f : Str) : TS := fun D σ H => tv σ H fun y H1 => ta σ H1 fun x H2 => ∃ a C fs, x = .ref a /\ H2 a = some (.exn C fs) /\ ClsX K C /\ NoAttr K C f /\ fs.length < 1000 /\
 ∀ H3, (H3 = H2 \/ ∃ dx, H2 dx = none /\ H3 = upd H2 dx (.own a)) -> D.nx σ (upd H3 a (.exn C (putF f y fs)))
theorem ps_fldX (ha : PE X o ta) (hv : PE X value tv) (hs : swapsWith value (some (.Attribute o f pos')) pos.line X.env = pure false) : PS X (.Assign [.Attribute o f pos'] value pos) (sFldX X.K ta tv f) := by
 refine ⟨?_⟩; intro pins s σ H D I h
 refine plainObj_wpAny_Assign_Attribute (thn (hv pins s σ H _ I h) fun u s1 ⟨y, H1, I1, ry, q⟩ => thn (ha pins s1 σ H1 _ I1 q) fun ov s2 ⟨x, H2, I2, rx, a, C, fs, ex, ea, c, n, l, q2⟩ => ?_) hs
 subst ex
 obtain rfl : ov = Value.ref a := rx
 exact setattrX_ok I2 ea c n l ry fun s3 H3 w I3 => ⟨σ, _, I3, q2 H3 w⟩
structure ClsM (K : PySem.W.Frag) (C : Addr) (m : Str) (f : Addr) : Prop where
 rd : PySem.W.readsIn K C (.type "type") = true
 fc : PySem.W.findCls K (.ref C) (.type "type") m = some (.val (.ref f))
 sg : PySem.W.specialIn K (.ref C) "__getattribute__" = some (some (.builtin "type.__getattribute__"))
 kp : PySem.W.keepIn K (.ref f) = true
noncomputable def tCallC (X : Cx) (f : Addr) (t : TA) : TE := fun σ H Q => t σ H fun vs H1 => RunV X f vs H1 Q
theorem pe_callC {x m : Str} {C g : Addr} {pl : Sem Bool} (c : ClsM X.K C m g) (hg : Gl X x) (hm : X.mg x = some (.ref C)) (ha : PA X (e :: es) t) (hdb : (x == ("__debug__" : Str)) = false := by decide)
  (hst : starEach (e :: es) X.env = (false, eval e X.env) :: starEach es X.env := by rfl) (hpl : (backTo pos (starEach es X.env)).any (·.1) = false := by rfl)
  (ht : eval (.Call (.Attribute (.Name x p) m apos) (e :: es) [] pos) X.env = (do
   let ov ← eval (.Name x p) X.env
   standAt apos.atName
   let (f, first) ← holding [ov] (getMethod ov m pl)
   callWith pos f first (backTo pos (starEach (e :: es) X.env)) (backToKw pos (keywordEach [] X.env))) := by rfl) :
  PE X (.Call (.Attribute (.Name x p) m apos) (e :: es) [] pos) (tCallC X g t) := by
 refine ⟨?_⟩; intro pins s σ H Q I h
 refine PySem.W.methodCall_KW (pl := pl) (ld_glob I hg hm ?_ hdb) ht
 refine PySem.W.method_cls I.kIn c.sg (PySem.W.cls_value I.kIn c.rd c.fc rfl ?_)
 have I1 := I.tok (s.toks + 1)
 refine PySem.W.callWith_K (first := []) (h₀ := X.base) I.ok.mod.kin c.kp (thn (ha pos pins _ σ H _ I1 h) fun us s2 ⟨vs, H2, I2, r, q2⟩ => ⟨I2.kIn, ?_⟩) hst hpl
 exact q2 pins σ s2 us I2 r
noncomputable def tInitV (K : PySem.W.Frag) (t : TA) : TE := fun σ H Q => t σ H fun vs H1 => ∃ a C fs ws, vs = .ref a :: ws /\ H1 a = some (.exn C fs) /\ ClsX K C /\ ws.length <= sizeLine /\ Q .non H1
theorem fcV (K : PySem.W.Frag) : PySem.W.findCls K (.type "ValueError") (.type "type") "__init__" = some (.val (.builtin "ValueError.__init__")) := by kernel_rfl
theorem pe_initV {pl : Sem Bool} (hg : Gl X "ValueError") (hm : X.mg "ValueError" = none) (ha : PA X (e :: es) t)
  (hst : starEach (e :: es) X.env = (false, eval e X.env) :: starEach es X.env := by rfl) (hpl : (backTo pos (starEach es X.env)).any (·.1) = false := by rfl)
  (ht : eval (.Call (.Attribute (.Name "ValueError" p) "__init__" apos) (e :: es) [] pos) X.env = (do
   let ov ← eval (.Name "ValueError" p) X.env
   standAt apos.atName
   let (f, first) ← holding [ov] (getMethod ov "__init__" pl)
   callWith pos f first (backTo pos (starEach (e :: es) X.env)) (backToKw pos (keywordEach [] X.env))) := by rfl) :
  PE X (.Call (.Attribute (.Name "ValueError" p) "__init__" apos) (e :: es) [] pos) (tInitV X.K t) := by
 refine ⟨?_⟩; intro pins s σ H Q I h
 refine PySem.W.methodCall_KW (pl := pl) (ld_blt I hg hm (u := .type "ValueError") PyProof.Rows.Boot.«ValueError» ?_ (by decide) (by decide)) ht
 have L0 : PySem.W.Looks (model X.prog X.w) s.heap (typeOf (.type "ValueError")) (.type "type") := PySem.W.Looks.of_pure (by kernel_rfl)
 have hga : PySem.W.findIn X.K (.type "type") "__getattribute__" = some (some (.builtin "type.__getattribute__")) := PySem.W.type_tga
 unfold getMethod specialOf
 refine wpAny_bind (wpAny_bind (L0.here ((PySem.W.looks_findIn I.kIn hga).here ?_)))
 dsimp only
 rw [if_pos PySem.W.canon_tga]
 have LO : PySem.W.Looks (model X.prog X.w) s.heap (opaqueClassAbove (.type "ValueError")) none := PySem.W.Looks.of_pure (by kernel_rfl)
 refine wpAny_bind (PySem.W.cls_open I.kIn LO L0 hga (PySem.W.looks_hook I.kIn (r := none) (by rfl)) (by rfl) (fcV X.K) (wpAny_pure ?_))
 show wpAny _ _ (handedOut (.builtin "ValueError.__init__")) _ _ _
 rw [PySem.W.handedOut_of (by kernel_rfl)]
 (refine wpAny_pure (wpAny_pure ?_))
 have I1 := I.tok (s.toks + 1)
 refine PyProof.Rows.callWith_builtin1 (thn (ha pos pins _ σ H _ I1 h) fun us s2 ⟨vs, H2, I2, r, a, C, fs, ws, ev, ea, c, hl, q2⟩ => ?_) hst hpl
 subst ev
 cases r with
 | @cons _ u _ us' r1 r2 =>
  obtain rfl : u = Value.ref a := r1
  exact initX_ok I2 ea c (by rw [← r2.length]; exact hl) fun s3 I3 => ⟨.non, H2, I3, rfl, q2⟩
end
section
variable {X : Cx} {CX : CXT} {k : Nat} {f C : Addr} {fd : FuncData} {ps : List Str} {sp : Sp} {E : XK} {x : Str} {p pos : Pos} {e : Expr} {es : List Expr} {t : TA}
structure MkX (K : PySem.W.Frag) (C f : Addr) : Prop where
 cl : ClsX K C
 init : PySem.W.findIn K (.ref C) "__init__" = some (some (.ref f))
 fn : PySem.W.isFn K (.ref f) = true
 kp : PySem.W.keepIn K (.ref C) = true
theorem run_makeX {pins : List (Addr × Obj)} {σ : St} {H : Hp} {s : Shared} {Q : VK} {us : List Value} {vs : List V} (M : MkX X.K C f) (F : FnOk X.prog X.w X.K X.mg X.base CX k f fd ps sp) (hr : Room (k + 1) X.A) (hb : Binds X.K fd ps [])
  (hx : Passes CX X E) (I : Inv X pins σ H s) (r : Vals vs us) (hz : us.length <= sizeLine)
  (h : ∀ x, H x = none -> sp (.ref x :: vs) (upd H x (.exn C [])) (fun v H2 => v = .non /\ Q (.ref x) H2) E) :
  wpAny (model X.prog X.w) X.A (call (.ref C) us) (EP X pins σ Q) X.xe s := by
 have hq := h (s.heap.objs.size + 1) (I.hok.fresh (Nat.le_succ _))
 have e1 : ((s.heap.push { cls := .type "tuple", data := .seq us.toArray }).push (exO C none s.heap.objs.size)).get? (s.heap.objs.size + 1) = some (exO C none s.heap.objs.size) := by
  have := Heap.get?_push_size (s.heap.push { cls := .type "tuple", data := .seq us.toArray }) (o := exO C none s.heap.objs.size) rfl
  rwa [Heap.size_push] at this
 have I2 : Inv X pins σ (upd H (s.heap.objs.size + 1) (.exn C [])) { s with heap := (s.heap.push { cls := .type "tuple", data := .seq us.toArray }).push (exO C none s.heap.objs.size) } :=
  I.laid (a := s.heap.objs.size + 1) (o := .exn C []) (t' := s.toks) (fun b u q => Heap.get?_push_of_some _ (Heap.get?_push_of_some _ q)) (Nat.le_succ _) ⟨Nat.zero_le _, _, none, e1, .inl ⟨rfl, rfl⟩⟩
 have r2 : Vals (V.ref (s.heap.objs.size + 1) :: vs) (Value.ref (s.heap.objs.size + 1) :: us) := .cons rfl r
 have hl : (Value.ref (s.heap.objs.size + 1) :: us ++ []).length = ps.length := by
  have e := r2.length
  rw [F.len _ _ _ _ hq] at e
  rw [List.append_nil]; exact e.symm
 have hB := hb _ (Value.ref (s.heap.objs.size + 1) :: us) I2.kIn hl
 rw [List.append_nil] at hB
 (obtain ⟨hp, g, d, tk, os⟩ := s)
 refine EX.make_exc I.kIn M.cl.toClsE M.init (beq_iff_eq.mp M.fn) (codeAny_mono (F.run _ X.stack _ _ ⟨Value.ref (hp.objs.size + 1) :: us, []⟩ (Value.ref (hp.objs.size + 1) :: us) _ _ E (hr.make C us [])
  (I2.env0.make C us []) hB r2 hq) fun r s' hq' => ?_) hz
 cases r with
 | error e => exact hx pins σ _ _ e s' I2 hq'
 | ok fl =>
  cases fl with
  | ret u =>
   obtain ⟨v, H', I3, rv, ev, q3⟩ := I2.after hq'
   subst ev
   exact ⟨rv, ⟨V.ref (hp.objs.size + 1), H', I3, rfl, q3⟩⟩
  | next => exact False.elim hq'
  | brk => exact False.elim hq'
  | cont => exact False.elim hq'
noncomputable def tMakeX (C : Addr) (sp : Sp) (E : XK) (t : TA) : TE := fun σ H Q => t σ H fun vs H1 => vs.length <= sizeLine /\ ∀ x, H1 x = none -> sp (.ref x :: vs) (upd H1 x (.exn C [])) (fun v H2 => v = .non /\ Q (.ref x) H2) E
theorem pe_makeX (M : MkX X.K C f) (F : FnOk X.prog X.w X.K X.mg X.base CX k f fd ps sp) (hr : Room (k + 1) X.A) (hg : Gl X x) (hm : X.mg x = some (.ref C)) (hb : Binds X.K fd ps []) (hx : Passes CX X E)
  (ha : PA X (e :: es) t) (hdb : (x == ("__debug__" : Str)) = false := by decide) (he : starEach (e :: es) X.env = (false, eval e X.env) :: starEach es X.env := by rfl) (hpl : (backTo pos (starEach es X.env)).any (·.1) = false := by rfl) :
  PE X (.Call (.Name x p) (e :: es) [] pos) (tMakeX C sp E t) := by
 refine ⟨?_⟩; intro pins s σ H Q I h
 refine wpAny_Call_Name_kw (ld_glob I hg hm ?_ hdb)
 refine PySem.W.callWith_K (h₀ := X.base) I.ok.mod.kin M.kp (thn (ha pos pins s σ H _ I h) fun us s1 ⟨vs, H1, I1, r, hz, q⟩ => ⟨I1.kIn, ?_⟩) he hpl
 exact run_makeX M F hr hb hx I1 r (show us.length <= sizeLine from r.length ▸ hz) q
end
end L2
namespace PF
open PySem PySem.Spec
open L2
open PyProof.Rows (envOfC)
section
variable {X : Cx} {K : PySem.W.Frag} {as : As} {H : Hp}
noncomputable def onX {α : Type} (d : D) (s : S) (k : Nat -> Str -> List (Str × D) -> R α) : R α := match d with
 | .ref n => match s[n]? with
  | some (.exc C fs) => k n C fs
  | _ => .bad
 | _ => .bad
theorem onX_ok {α β : Type} {rel : As -> Hp -> β -> α -> Prop} {s : S} {d : D} {v : V} {k : Nat -> Str -> List (Str × D) -> R α} {Q : β -> Hp -> Prop} (rl : Rel K as H s) (r : RD K as H v d) (h : Dn K rel as H (onX d s k) Q) :
  ∃ p n C fs, v = .ref p /\ d = .ref n /\ as.ix[n]? = some (some p) /\ s[n]? = some (.exc C fs) /\ RO K as H p (.exc C fs) /\ Dn K rel as H (k n C fs) Q := by
 cases r with
 | @ref p n l hr =>
  have h : Dn K rel as H (match s[n]? with | some (O.exc C fs) => k n C fs | _ => .bad) Q := h
  split at h
  ·rename_i C fs e
   obtain ⟨q, hq⟩ := rl.li n _ e (by intro z; cases z)
   cases hr q hq
   exact ⟨p, n, C, fs, rfl, rfl, hq, e, rl.ob n p _ hq e, h⟩
  ·exact h.elim
 | _ => exact h.elim
structure XT (K : PySem.W.Frag) (mg : Str -> Option Value) (b : Str) (cs fl : List Str) : Prop where
 ok : ∀ C ∈ b :: cs, ∃ Ca : Addr, PySem.W.nsIn K mainGlobals C = some (some (.ref Ca)) /\ mg C = some (.ref Ca) /\ ClsX K Ca /\ (∀ f ∈ fl, NoAttr K Ca f) /\ PySem.W.kitOne K (.ref Ca) (.type "ValueError") = some true /\
  ∀ D ∈ b :: cs, ∀ Da : Addr, PySem.W.nsIn K mainGlobals D = some (some (.ref Da)) -> PySem.W.kitOne K (.ref Ca) (.ref Da) = some (D == C || D == b)
section
variable {b : Str} {cs fl : List Str} {mg : Str -> Option Value}
theorem XT.at (x : XT K mg b cs fl) {C : Str} (h : (b :: cs).contains C = true) {Ca : Addr} (e : PySem.W.nsIn K mainGlobals C = some (some (.ref Ca))) : ClsX K Ca /\ (∀ f, fl.contains f = true -> NoAttr K Ca f) /\ PySem.W.kitOne K (.ref Ca) (.type "ValueError") = some true /\
  ∀ D, (b :: cs).contains D = true -> ∀ Da : Addr, PySem.W.nsIn K mainGlobals D = some (some (.ref Da)) -> PySem.W.kitOne K (.ref Ca) (.ref Da) = some (D == C || D == b) := by
 obtain ⟨Ca', h1, _, h3, h4, h5, h6⟩ := x.ok C (List.contains_iff_mem.mp h)
 rw [e] at h1; cases h1
 exact ⟨h3, fun f hf => h4 f (List.contains_iff_mem.mp hf), h5, fun D hD => h6 D (List.contains_iff_mem.mp hD)⟩
theorem re_cls {C : Str} {pos : Pos} (x : XT X.K X.mg b cs fl) (h : (b :: cs).contains C = true) (hg : Gl X C := by rfl) (hd : (C == ("__debug__" : Str)) = false := by decide) : RE X (.Name C pos) (fC (.fn C)) := by
 obtain ⟨Ca, h1, h2, _⟩ := x.ok C (List.contains_iff_mem.mp h)
 exact re_glob (v := .ref Ca) (fun as H => .fn h1) h2 rfl hg hd
noncomputable def gIsx (b : Str) (cs : List Str) (ds : List D) (s : S) : R D := match ds with
 | [d, .fn y] => onX d s fun _ C _ => if (b :: cs).contains C = true /\ (b :: cs).contains y = true then .ok (.bl (y == C || y == b)) s else .bad
 | [d, .ty t] => onX d s fun _ C _ => if (b :: cs).contains C = true /\ t = "ValueError" then .ok (.bl true) s else .bad
 | _ => .bad
theorem c_isx (x : XT X.K X.mg b cs fl) : CB X (.builtin "isinstance") (gIsx b cs) := cb_of fun pins sh σ H as s xs ds us Q I rl rs ru h => by
 unfold gIsx at h
 split at h
 ·obtain ⟨v, w, rfl, rv, rw⟩ := rs.two
  obtain ⟨u, u2, rfl, ru1, ru2⟩ := vals2 ru
  obtain ⟨p, n, C, fs, rfl, rfl, ha, hs, ⟨Ca, gs, e0, e1, fr⟩, h2⟩ := onX_ok rl rv h
  split at h2
  ·rename_i hc
   cases rw with
   | @fn f y hf =>
    cases (show u = Value.ref p from ru1)
    cases (show u2 = Value.ref f from ru2)
    obtain ⟨c1, _, _, c4⟩ := x.at hc.1 e0
    exact isx_ok I e1 c1 (c4 _ hc.2 f hf) fun tk => ⟨.bl _, H, I.tok _, rfl, Dn.now (Q := Q) h2 rl (.da (.bl _))⟩
  ·exact h2.elim
 ·obtain ⟨v, w, rfl, rv, rw⟩ := rs.two
  obtain ⟨u, u2, rfl, ru1, ru2⟩ := vals2 ru
  obtain ⟨p, n, C, fs, rfl, rfl, ha, hs, ⟨Ca, gs, e0, e1, fr⟩, h2⟩ := onX_ok rl rv h
  split at h2
  ·rename_i hc
   obtain ⟨hc, rfl⟩ := hc
   cases rw
   cases (show u = Value.ref p from ru1)
   cases (show u2 = Value.type "ValueError" from ru2)
   obtain ⟨c1, _, c3, _⟩ := x.at hc e0
   exact isx_ok I e1 c1 c3 fun tk => ⟨.bl _, H, I.tok _, rfl, Dn.now (Q := Q) h2 rl (.da (.bl _))⟩
  ·exact h2.elim
 ·exact h.elim
noncomputable def gFldX (b : Str) (cs fl : List Str) (f : Str) (d : D) (s : S) : R D := onX d s fun _ C fs => if (b :: cs).contains C = true /\ fl.contains f = true then match fs.lookup f with
  | some x => .ok x s
  | none => .bad
 else .bad
noncomputable def fFldX (b : Str) (cs fl : List Str) (f : Str) (fo : FE) : FE := fun ρ s => (fo ρ s).bind (gFldX b cs fl f)
theorem re_fldX {f : Str} {o : Expr} {fo : FE} {pos : Pos} (x : XT X.K X.mg b cs fl) (ho : RE X o fo) (hb : attributeBase o f X.env (eval o X.env) = eval o X.env := by rfl) : RE X (.Attribute o f pos) (fFldX b cs fl f fo) := by
 obtain ⟨to, po, ro⟩ := ho.ex
 refine ⟨_, pe_fldX po hb, fun as σ H ρ s Q rl en h => ?_⟩
 refine ro as σ H ρ s _ rl en (Dn.bind h fun d s1 as1 H1 v st1 rl1 r1 h1 => ?_)
 obtain ⟨p, n, C, fs, rfl, rfl, ha, hs, ⟨Ca, gs, e0, e1, fr⟩, h2⟩ := onX_ok rl1 r1 h1
 split at h2
 ·rename_i hf
  split at h2
  ·rename_i y hx
   obtain ⟨c1, c2, _⟩ := x.at hf.1 e0
   obtain ⟨v, hv, rv⟩ := (fr.look (f := f)).1 y hx
   exact ⟨p, Ca, gs, v, rfl, e1, c1, c2 f hf.2, hv, Dn.now (Q := Q) h2 rl1 rv⟩
  ·exact h2.elim
 ·exact h2.elim
noncomputable def fSetX (b : Str) (cs fl : List Str) (f : Str) (fo fv : FE) : FS := fun ρ s => (fv ρ s).bind fun x s1 => (fo ρ s1).bind fun d s2 => onX d s2 fun n C fs => if ((b :: cs).contains C = true /\ fl.contains f = true) /\ fs.length < 1000 then .ok (.nx ρ) (s2.set n (.exc C (putN f x fs))) else .bad
theorem exc_chg {s : S} {p Ca : Addr} {n : Nat} {C f : Str} {gs : List (Str × V)} {fs : List (Str × D)} {v : V} {x : D} (rl : Rel K as H s) (ha : as.ix[n]? = some (some p)) (e0 : PySem.W.nsIn K mainGlobals C = some (some (.ref Ca))) (fr : FRs K as H gs fs) (rv : RD K as H v x) :
  Step as H as (upd H p (.exn Ca (putF f v gs))) /\ Rel K as (upd H p (.exn Ca (putF f v gs))) (s.set n (.exc C (putN f x fs))) := by
 have c : Chg H p (.exn Ca (putF f v gs)) (upd H p (.exn Ca (putF f v gs))) := ⟨rfl⟩
 have st := step_chg (mem_as.mpr ⟨n, ha⟩) (fun z => rl.hx p z (mem_as.mpr ⟨n, ha⟩)) c
 exact ⟨st, rl.chg ha c ⟨Ca, _, e0, c.at, (fr.put rv).mono0 st.toStep0⟩⟩
theorem rs_fldX {f : Str} {o value : Expr} {fo fv : FE} {pos pos' : Pos} (x : XT X.K X.mg b cs fl) (ho : RE X o fo) (hv : RE X value fv) (hs : swapsWith value (some (.Attribute o f pos')) pos.line X.env = pure false := by rfl) : RS X (.Assign [.Attribute o f pos'] value pos) (fSetX b cs fl f fo fv) := by
 obtain ⟨to, po, ro⟩ := ho.ex
 obtain ⟨tv, pv, rv⟩ := hv.ex
 refine ⟨_, ps_fldX po pv hs, fun as σ H ρ s D rl en h => ?_⟩
 refine rv as σ H ρ s _ rl en (Dn.bind h fun y s1 as1 H1 yv st1 rl1 r1 h1 => ?_)
 refine ro as1 σ H1 ρ s1 _ rl1 (en.mono st1) (Dn.bind h1 fun d s2 as2 H2 z st2 rl2 r2 h2 => ?_)
 obtain ⟨p, n, C, fs, rfl, rfl, ha, hs, ⟨Ca, gs, e0, e1, fr⟩, h3⟩ := onX_ok rl2 r2 h2
 split at h3
 ·rename_i hf
  obtain ⟨c1, c2, _⟩ := x.at hf.1.1 e0
  refine ⟨p, Ca, gs, rfl, e1, c1, c2 f hf.1.2, by rw [fr.len]; exact hf.2, fun H3 w => ?_⟩
  rcases w with rfl | ⟨dx, hdx, rfl⟩
  ·obtain ⟨st, rl3⟩ := exc_chg (f := f) rl2 ha e0 fr (r1.mono st2)
   exact h3 (FV.nx σ) as2 _ st rl3 (.nx (((en.mono st1).mono st2).mono st))
  ·have n1 : New H2 dx (.own p) (upd H2 dx (.own p)) := ⟨hdx, rfl⟩
   have st0 : Step as2 H2 as2 (upd H2 dx (.own p)) := step_new n1
   have rl0 := rl2.new n1
   obtain ⟨st, rl3⟩ := exc_chg (f := f) rl0 ha e0 (fr.mono0 st0.toStep0) ((r1.mono st2).mono st0)
   exact h3 (FV.nx σ) as2 _ (st0.trans st) rl3 (.nx ((((en.mono st1).mono st2).mono st0).mono st))
 ·exact h3.elim
end
structure InitX (P : Program) (w : World) (K : PySem.W.Frag) (mg : Str -> Option Value) (base : Heap) (C : Str) (k n : Nat) (F : FF) : Prop where
 ex : ∃ (Ca f : Addr) (fd : FuncData) (ps : List Str), PySem.W.nsIn K mainGlobals C = some (some (.ref Ca)) /\ mg C = some (.ref Ca) /\ MkX K Ca f /\ ClsM K Ca "__init__" f /\ FnOk P w K mg base CX0 k f fd ps (spF K n F) /\ Binds K fd ps []
noncomputable def fMakeX (C : Str) (n : Nat) (F : FF) (fa : FA) : FE := fun ρ s => (fa ρ s).bind fun ds s1 => if ds.length + 1 = n /\ n < 1000 then (F (.ref s1.length :: ds) (s1 ++ [.exc C []])).bind fun d s2 => match d with
  | .da .none => .ok (.ref s1.length) s2
  | _ => .bad
 else .bad
theorem re_makeX {x : Str} {k n : Nat} {F : FF} {e : Expr} {es : List Expr} {fa : FA} {p pos : Pos} (c : InitX X.prog X.w X.K X.mg X.base x k n F) (hr : Room (k + 1) X.A) (ha : RA X (e :: es) fa) (hg : Gl X x := by rfl) (hdb : (x == ("__debug__" : Str)) = false := by decide)
  (he : starEach (e :: es) X.env = (false, eval e X.env) :: starEach es X.env := by rfl) (hpl : (backTo pos (starEach es X.env)).any (·.1) = false := by rfl) : RE X (.Call (.Name x p) (e :: es) [] pos) (fMakeX x n F fa) := by
 obtain ⟨Ca, f, fd, ps, e0, hm, M, _, Fo, bi⟩ := c.ex
 obtain ⟨ta, pa, ra⟩ := ha.ex
 refine ⟨_, pe_makeX M Fo hr hg hm bi pass0 pa hdb he hpl, ?_⟩
 intro as σ H ρ s Q rl en h
 refine ra as σ H ρ s _ rl en (Dn.bind h fun ds s1 as1 H1 vs st1 rl1 r1 h1 => ?_)
 split at h1
 ·rename_i hn
  refine ⟨by rw [r1.length, sizeLine_eq]; omega, fun a na => ?_⟩
  have n2 : New H1 a (.exn Ca []) (upd H1 a (.exn Ca [])) := ⟨na, rfl⟩
  have st : Step as1 H1 (as1.add a) (upd H1 a (.exn Ca [])) := step_laid n2
  have rl3 := rl1.laid (u := .exc x []) n2 ⟨Ca, [], e0, n2.at, .nil⟩
  have rx : RD X.K (as1.add a) (upd H1 a (.exn Ca [])) (.ref a) (.ref s1.length) := .ref (by simp [rl1.len]) fun q e => by
   rw [← rl1.len] at e
   simp at e
   exact e.symm
  refine ⟨by rw [List.length_cons, r1.length]; exact hn.1, as1.add a, .ref s1.length :: ds, _, rl3, .cons rx (r1.mono st), ?_⟩
  refine Dn.bind (Dn.step h1 st) fun d s2 as2 H2 v st2' rl2' r2 h2 => ?_
  split at h2
  ·cases r2 with
   | da t => cases t; exact ⟨rfl, Dn.now (Q := Q) h2 rl2' (rx.mono st2')⟩
  ·exact h2.elim
 ·exact h1.elim
theorem re_callC {x : Str} {k n : Nat} {F : FF} {e : Expr} {es : List Expr} {fa : FA} {p apos pos : Pos} {pl : Sem Bool} (c : InitX X.prog X.w X.K X.mg X.base x k n F) (hr : Room k X.A) (ha : RA X (e :: es) fa) (hg : Gl X x := by rfl) (hdb : (x == ("__debug__" : Str)) = false := by decide)
  (he : starEach (e :: es) X.env = (false, eval e X.env) :: starEach es X.env := by rfl) (hpl : (backTo pos (starEach es X.env)).any (·.1) = false := by rfl)
  (ht : eval (.Call (.Attribute (.Name x p) "__init__" apos) (e :: es) [] pos) X.env = (do
   let ov ← eval (.Name x p) X.env
   standAt apos.atName
   let (f, first) ← holding [ov] (getMethod ov "__init__" pl)
   callWith pos f first (backTo pos (starEach (e :: es) X.env)) (backToKw pos (keywordEach [] X.env))) := by rfl) : RE X (.Call (.Attribute (.Name x p) "__init__" apos) (e :: es) [] pos) (fCall n F fa) := by
 obtain ⟨Ca, f, fd, ps, e0, hm, _, C, Fo, bi⟩ := c.ex
 obtain ⟨ta, pa, ra⟩ := ha.ex
 refine ⟨_, pe_callC C hg hm pa hdb he hpl ht, ?_⟩
 intro as σ H ρ s Q rl en h
 refine ra as σ H ρ s _ rl en (Dn.bind h fun ds s1 as1 H1 vs st1 rl1 r1 h1 => ?_)
 split at h1
 ·rename_i hn
  intro pins σ' sh us I ru
  refine run_fn Fo hr bi .nil pass0 I ru ⟨by rw [List.append_nil, r1.length]; exact hn, as1, ds, s1, rl1, ?_, h1⟩
  rw [List.append_nil]; exact r1
 ·exact h1.elim
noncomputable def gInitV (b : Str) (cs : List Str) (ds : List D) (s : S) : R D := match ds with
 | [d, _] => onX d s fun _ C _ => if (b :: cs).contains C = true then .ok .non s else .bad
 | _ => .bad
theorem re_initV {b : Str} {cs fl : List Str} {e : Expr} {es : List Expr} {fa : FA} {p apos pos : Pos} {pl : Sem Bool} (x : XT X.K X.mg b cs fl) (hm : X.mg "ValueError" = none) (ha : RA X (e :: es) fa) (hg : Gl X "ValueError" := by rfl)
  (he : starEach (e :: es) X.env = (false, eval e X.env) :: starEach es X.env := by rfl) (hpl : (backTo pos (starEach es X.env)).any (·.1) = false := by rfl)
  (ht : eval (.Call (.Attribute (.Name "ValueError" p) "__init__" apos) (e :: es) [] pos) X.env = (do
   let ov ← eval (.Name "ValueError" p) X.env
   standAt apos.atName
   let (f, first) ← holding [ov] (getMethod ov "__init__" pl)
   callWith pos f first (backTo pos (starEach (e :: es) X.env)) (backToKw pos (keywordEach [] X.env))) := by rfl) : RE X (.Call (.Attribute (.Name "ValueError" p) "__init__" apos) (e :: es) [] pos) (fCB (gInitV b cs) fa) := by
 obtain ⟨ta, pa, ra⟩ := ha.ex
 refine ⟨_, pe_initV hg hm pa he hpl ht, ?_⟩
 intro as σ H ρ s Q rl en h
 refine ra as σ H ρ s _ rl en (Dn.bind h fun ds s1 as1 H1 vs st1 rl1 r1 h1 => ?_)
 unfold gInitV at h1
 split at h1
 ·obtain ⟨v, w, rfl, rv, rw⟩ := r1.two
  obtain ⟨p, n, C, fs, rfl, rfl, ha, hs, ⟨Ca, gs, e0, e1, fr⟩, h2⟩ := onX_ok rl1 rv h1
  split at h2
  ·rename_i hc
   exact ⟨p, Ca, gs, [w], rfl, e1, (x.at hc e0).1, by rw [sizeLine_eq]; simp, Dn.now (Q := Q) h2 rl1 (.da .non)⟩
  ·exact h2.elim
 ·exact h1.elim
noncomputable def gFrzD (d : D) (s : S) : R D := match d with
 | .ref n => match s[n]? with
  | some (.dct [(.int i, .da v)]) => .ok (.da (.dict [(.int i, v)])) (s.set n .gone)
  | _ => .bad
 | _ => .bad
noncomputable def fFrzD (f : FE) : FE := fun ρ s => (f ρ s).bind gFrzD
theorem DRs.head {k k' : PyData} {v : V} {d : D} {l : List (PyData × V)} {kvs : List (PyData × D)} (h : DRs K as H ((k, v) :: l) ((k', d) :: kvs)) : k = k' /\ RD K as H v d /\ DRs K as H l kvs := by
 cases h with
 | cons a b => exact ⟨rfl, a, b⟩
theorem frzD_ok {s : S} {d : D} {v : V} {Q : VK} (rl : Rel K as H s) (r : RD K as H v d) (h : Dn K (rD K) as H (gFrzD d s) Q) : Q v H := by
 cases r with
 | @ref p n l hr =>
  have h1 : Dn K (rD K) as H (match s[n]? with | some (O.dct [(.int i, .da v)]) => R.ok (.da (.dict [(.int i, v)])) (s.set n .gone) | _ => R.bad) Q := h
  split at h1
  ·rename_i i x e
   obtain ⟨q, ha⟩ := rl.li n _ e (by intro z; cases z)
   cases hr q ha
   have no : ¬ (as.cut n).has p := by
    rintro (z | z)
    ·obtain ⟨i, hi⟩ := mem_as.mp z
     have hi' := cut_ix hi
     have : n = i := rl.nd n i p ha hi'
     subst this
     rw [List.getElem?_set] at hi
     simp at hi
    ·exact rl.hx p z (mem_as.mpr ⟨n, ha⟩)
   rcases rl.ob n p _ ha e with ⟨l, hl, dr⟩ | ⟨l, hl, _, dr⟩
   ·cases l with
    | nil => cases dr
    | cons a r =>
     obtain ⟨k, y⟩ := a
     obtain ⟨ek, ry, dr⟩ := DRs.head (show DRs K as H ((kP k, y) :: pvK r) _ from dr)
     cases r with
     | cons _ _ => cases dr
     | nil =>
      cases k with
      | inr z => cases ek
      | inl z =>
       cases ek
       cases ry with
       | da t => exact h1 (.ref p) (as.cut n) H (step_frz n) rl.frz (.da (.dc1 no hl (t.mono (step_frz n))))
   ·cases l with
    | nil => cases dr
    | cons a r =>
     obtain ⟨k, y⟩ := a
     obtain ⟨ek, ry, dr⟩ := dr.head
     subst ek
     simp [isT] at hl
  ·exact h1.elim
 | _ => exact h.elim
theorem re_frzD {a : Expr} {fa : FE} (h : RE X a fa) : RE X a (fFrzD fa) := by
 obtain ⟨t, p, r⟩ := h.ex
 refine ⟨_, p, fun as σ H ρ s Q rl en h => ?_⟩
 exact r as σ H ρ s _ rl en (Dn.bind h fun d s1 as1 H1 v st1 rl1 r1 h1 => frzD_ok rl1 r1 h1)
end
structure HasX (K : PySem.W.Frag) (mg : Str -> Option Value) (C q : Str) (st : Stmt) (ps : List Str) : Prop where
 ex : ∃ (Ca f : Addr) (fd : FuncData), PySem.W.nsIn K mainGlobals C = some (some (.ref Ca)) /\ mg C = some (.ref Ca) /\ MkX K Ca f /\ ClsM K Ca "__init__" f /\ Fun K "__init__" q st f fd /\ Binds K fd ps []
section
variable {P : Program} {w : World} {K : PySem.W.Frag} {mg : Str -> Option Value} {base : Heap} {q C : Str} {st : Stmt} {N ps : List Str} {k : Nat}
theorem initXF (h : HasX K mg C q st ps) (S : FnScope N ps (defScope st)) {m n : Nat} {fb : FS} (hm : N.length = m) (hn : ps.length = n)
  (hbody : ∀ (f : Addr) (cdv : Value) (A : Around) (outer : List Env) (s : Shared) (H : Hp) (E : XK), Room k (A.deeper (envOfC q (defScope st) s.heap.objs.size f cdv)) ->
   RSs (cxOf CX0 P w K mg base N q (defScope st) f cdv A outer s H E).nox (defBody st) fb) : InitX P w K mg base C (k + 1) n (bodyF m fb) := by
 obtain ⟨Ca, f, fd, e0, e1, M, c, F, b⟩ := h.ex
 exact ⟨Ca, f, fd, ps, e0, e1, M, c, fnQ F S hm hn hbody, b⟩
end
end PF
namespace Ln
open PySem L2 PF
def top (i : Nat) : Stmt := PySem.Challenge.pw_mannerports_k18_refusals_by_hand.main.body.getD i (.Pass ⟨0, 0, 0, 0⟩)
abbrev s__law_feed : Stmt := top 14
abbrev s__law_draw : Stmt := top 15
abbrev s__law_kinds : Stmt := top 16
abbrev s_law : Stmt := top 17
abbrev xb : Str := "MannerError"
abbrev xcs : List Str := ["NoNet", "NoText", "NoMoment", "TooMany", "NoJoin", "NoAlike", "NoLeast", "NoWish", "NoTable", "NoBack", "NoRow"]
abbrev xfl : List Str := ["word", "path", "row", "number"]
noncomputable abbrev s_iMannerError : Stmt := inCls (top 1) 0
noncomputable abbrev s_iNoNet : Stmt := inCls (top 2) 0
noncomputable abbrev s_iNoText : Stmt := inCls (top 3) 0
noncomputable abbrev s_iNoMoment : Stmt := inCls (top 4) 0
noncomputable abbrev s_iTooMany : Stmt := inCls (top 5) 0
noncomputable abbrev s_iNoJoin : Stmt := inCls (top 6) 0
noncomputable abbrev s_iNoAlike : Stmt := inCls (top 7) 0
noncomputable abbrev s_iNoLeast : Stmt := inCls (top 8) 0
noncomputable abbrev s_iNoWish : Stmt := inCls (top 9) 0
noncomputable abbrev s_iNoTable : Stmt := inCls (top 10) 0
structure Txt0 (K : PySem.W.Frag) (mg : Str -> Option Value) : Prop where
 x : XT K mg xb xcs xfl
 hx_MannerError : HasX K mg "MannerError" "MannerError.__init__" s_iMannerError ["self", "text"]
 hx_NoNet : HasX K mg "NoNet" "NoNet.__init__" s_iNoNet ["self", "word", "path"]
 hx_NoText : HasX K mg "NoText" "NoText.__init__" s_iNoText ["self", "row"]
 hx_NoMoment : HasX K mg "NoMoment" "NoMoment.__init__" s_iNoMoment ["self", "number"]
 hx_TooMany : HasX K mg "TooMany" "TooMany.__init__" s_iTooMany ["self", "word"]
 hx_NoJoin : HasX K mg "NoJoin" "NoJoin.__init__" s_iNoJoin ["self", "word"]
 hx_NoAlike : HasX K mg "NoAlike" "NoAlike.__init__" s_iNoAlike ["self", "word", "number"]
 hx_NoLeast : HasX K mg "NoLeast" "NoLeast.__init__" s_iNoLeast ["self", "word", "number"]
 hx_NoWish : HasX K mg "NoWish" "NoWish.__init__" s_iNoWish ["self", "word", "number"]
 hx_NoTable : HasX K mg "NoTable" "NoTable.__init__" s_iNoTable ["self", "word"]
 hx_NoBack : HasX K mg "NoBack" "MannerError.__init__" s_iMannerError ["self", "text"]
 hx_NoRow : HasX K mg "NoRow" "MannerError.__init__" s_iMannerError ["self", "text"]
 h__law_feed : Has K mg "_law_feed" s__law_feed ["_law_script"]
 h__law_draw : Has K mg "_law_draw" s__law_draw ["_law_feed_here", "_law_many"]
 h__law_kinds : Has K mg "_law_kinds" s__law_kinds ["_law_e"]
 h_law : Has K mg "law" s_law ["_law_script"]
 n_len : mg "len" = none
 n_repr : mg "repr" = none
 n_list : mg "list" = none
 n_tuple : mg "tuple" = none
 n_range : mg "range" = none
 n_isinstance : mg "isinstance" = none
 n_ValueError : mg "ValueError" = none
end Ln
namespace Ln
open PySem L2 PF
noncomputable def BiMannerError : FS :=
  (fDrop (fCB (gInitV xb xcs) (fCons (fVar 0) (fCons (fVar 1) fNil))))
noncomputable def FiMannerError : FF := bodyF 2 BiMannerError
theorem sciMannerError : FnScope ["self", "text"] ["self", "text"] (defScope s_iMannerError) := ⟨rfl, rfl, rfl, by decide +kernel, rfl, by decide +kernel, by decide +kernel⟩
section
variable {P : Program} {w : World} {K : PySem.W.Frag} {mg : Str -> Option Value} {base : Heap}
theorem okiMannerError (T : Txt0 K mg) : InitX P w K mg base "MannerError" 1 2 FiMannerError := by
 exact initXF (k := 0) T.hx_MannerError sciMannerError rfl rfl (fun f cdv A outer s H E hr =>
   (rss_one (rs_expr (re_initV T.x T.n_ValueError (ra_cons (re_var 0) (ra_cons (re_var 1) ra_nil))))))
end
end Ln
namespace Ln
open PySem L2 PF
noncomputable def BiNoNet : FS :=
  (fSeq (fDrop (fCall 2 FiMannerError (fCons (fVar 0) (fCons (fC (.da (.str "this is no net"))) fNil))))
  (fSeq (fSetX xb xcs xfl "word" (fVar 0) (fVar 1))
  (fSetX xb xcs xfl "path" (fVar 0) (fVar 2))))
noncomputable def FiNoNet : FF := bodyF 3 BiNoNet
theorem sciNoNet : FnScope ["self", "word", "path"] ["self", "word", "path"] (defScope s_iNoNet) := ⟨rfl, rfl, rfl, by decide +kernel, rfl, by decide +kernel, by decide +kernel⟩
section
variable {P : Program} {w : World} {K : PySem.W.Frag} {mg : Str -> Option Value} {base : Heap}
theorem okiNoNet (T : Txt0 K mg) : InitX P w K mg base "NoNet" 3 3 FiNoNet := by
 have ciMannerError := okiMannerError (P := P) (w := w) (base := base) T
 exact initXF (k := 2) T.hx_NoNet sciNoNet rfl rfl (fun f cdv A outer s H E hr =>
   (rss_cons (rs_expr (re_callC ciMannerError (hr.mono (by decide)) (ra_cons (re_var 0) (ra_cons re_str ra_nil))))
   (rss_cons (rs_fldX T.x (re_var 0) (re_var 1))
   (rss_one (rs_fldX T.x (re_var 0) (re_var 2))))))
end
end Ln
namespace Ln
open PySem L2 PF
noncomputable def BiNoText : FS :=
  (fSeq (fDrop (fCall 2 FiMannerError (fCons (fVar 0) (fCons (fC (.da (.str "a line can't stand where it does"))) fNil))))
  (fSetX xb xcs xfl "row" (fVar 0) (fVar 1)))
noncomputable def FiNoText : FF := bodyF 2 BiNoText
theorem sciNoText : FnScope ["self", "row"] ["self", "row"] (defScope s_iNoText) := ⟨rfl, rfl, rfl, by decide +kernel, rfl, by decide +kernel, by decide +kernel⟩
section
variable {P : Program} {w : World} {K : PySem.W.Frag} {mg : Str -> Option Value} {base : Heap}
theorem okiNoText (T : Txt0 K mg) : InitX P w K mg base "NoText" 3 2 FiNoText := by
 have ciMannerError := okiMannerError (P := P) (w := w) (base := base) T
 exact initXF (k := 2) T.hx_NoText sciNoText rfl rfl (fun f cdv A outer s H E hr =>
   (rss_cons (rs_expr (re_callC ciMannerError (hr.mono (by decide)) (ra_cons (re_var 0) (ra_cons re_str ra_nil))))
   (rss_one (rs_fldX T.x (re_var 0) (re_var 1)))))
end
end Ln
namespace Ln
open PySem L2 PF
noncomputable def BiNoMoment : FS :=
  (fSeq (fDrop (fCall 2 FiMannerError (fCons (fVar 0) (fCons (fC (.da (.str "this moment is not let"))) fNil))))
  (fSetX xb xcs xfl "number" (fVar 0) (fVar 1)))
noncomputable def FiNoMoment : FF := bodyF 2 BiNoMoment
theorem sciNoMoment : FnScope ["self", "number"] ["self", "number"] (defScope s_iNoMoment) := ⟨rfl, rfl, rfl, by decide +kernel, rfl, by decide +kernel, by decide +kernel⟩
section
variable {P : Program} {w : World} {K : PySem.W.Frag} {mg : Str -> Option Value} {base : Heap}
theorem okiNoMoment (T : Txt0 K mg) : InitX P w K mg base "NoMoment" 3 2 FiNoMoment := by
 have ciMannerError := okiMannerError (P := P) (w := w) (base := base) T
 exact initXF (k := 2) T.hx_NoMoment sciNoMoment rfl rfl (fun f cdv A outer s H E hr =>
   (rss_cons (rs_expr (re_callC ciMannerError (hr.mono (by decide)) (ra_cons (re_var 0) (ra_cons re_str ra_nil))))
   (rss_one (rs_fldX T.x (re_var 0) (re_var 1)))))
end
end Ln
namespace Ln
open PySem L2 PF
noncomputable def BiTooMany : FS :=
  (fSeq (fDrop (fCall 2 FiMannerError (fCons (fVar 0) (fCons (fC (.da (.str "there are too many"))) fNil))))
  (fSetX xb xcs xfl "word" (fVar 0) (fVar 1)))
noncomputable def FiTooMany : FF := bodyF 2 BiTooMany
theorem sciTooMany : FnScope ["self", "word"] ["self", "word"] (defScope s_iTooMany) := ⟨rfl, rfl, rfl, by decide +kernel, rfl, by decide +kernel, by decide +kernel⟩
section
variable {P : Program} {w : World} {K : PySem.W.Frag} {mg : Str -> Option Value} {base : Heap}
theorem okiTooMany (T : Txt0 K mg) : InitX P w K mg base "TooMany" 3 2 FiTooMany := by
 have ciMannerError := okiMannerError (P := P) (w := w) (base := base) T
 exact initXF (k := 2) T.hx_TooMany sciTooMany rfl rfl (fun f cdv A outer s H E hr =>
   (rss_cons (rs_expr (re_callC ciMannerError (hr.mono (by decide)) (ra_cons (re_var 0) (ra_cons re_str ra_nil))))
   (rss_one (rs_fldX T.x (re_var 0) (re_var 1)))))
end
end Ln
namespace Ln
open PySem L2 PF
noncomputable def BiNoJoin : FS :=
  (fSeq (fDrop (fCall 2 FiMannerError (fCons (fVar 0) (fCons (fC (.da (.str "this can't be joined"))) fNil))))
  (fSetX xb xcs xfl "word" (fVar 0) (fVar 1)))
noncomputable def FiNoJoin : FF := bodyF 2 BiNoJoin
theorem sciNoJoin : FnScope ["self", "word"] ["self", "word"] (defScope s_iNoJoin) := ⟨rfl, rfl, rfl, by decide +kernel, rfl, by decide +kernel, by decide +kernel⟩
section
variable {P : Program} {w : World} {K : PySem.W.Frag} {mg : Str -> Option Value} {base : Heap}
theorem okiNoJoin (T : Txt0 K mg) : InitX P w K mg base "NoJoin" 3 2 FiNoJoin := by
 have ciMannerError := okiMannerError (P := P) (w := w) (base := base) T
 exact initXF (k := 2) T.hx_NoJoin sciNoJoin rfl rfl (fun f cdv A outer s H E hr =>
   (rss_cons (rs_expr (re_callC ciMannerError (hr.mono (by decide)) (ra_cons (re_var 0) (ra_cons re_str ra_nil))))
   (rss_one (rs_fldX T.x (re_var 0) (re_var 1)))))
end
end Ln
namespace Ln
open PySem L2 PF
noncomputable def BiNoAlike : FS :=
  (fSeq (fDrop (fCall 2 FiMannerError (fCons (fVar 0) (fCons (fC (.da (.str "this shows no likeness"))) fNil))))
  (fSeq (fSetX xb xcs xfl "word" (fVar 0) (fVar 1))
  (fSetX xb xcs xfl "number" (fVar 0) (fVar 2))))
noncomputable def FiNoAlike : FF := bodyF 3 BiNoAlike
theorem sciNoAlike : FnScope ["self", "word", "number"] ["self", "word", "number"] (defScope s_iNoAlike) := ⟨rfl, rfl, rfl, by decide +kernel, rfl, by decide +kernel, by decide +kernel⟩
section
variable {P : Program} {w : World} {K : PySem.W.Frag} {mg : Str -> Option Value} {base : Heap}
theorem okiNoAlike (T : Txt0 K mg) : InitX P w K mg base "NoAlike" 3 3 FiNoAlike := by
 have ciMannerError := okiMannerError (P := P) (w := w) (base := base) T
 exact initXF (k := 2) T.hx_NoAlike sciNoAlike rfl rfl (fun f cdv A outer s H E hr =>
   (rss_cons (rs_expr (re_callC ciMannerError (hr.mono (by decide)) (ra_cons (re_var 0) (ra_cons re_str ra_nil))))
   (rss_cons (rs_fldX T.x (re_var 0) (re_var 1))
   (rss_one (rs_fldX T.x (re_var 0) (re_var 2))))))
end
end Ln
namespace Ln
open PySem L2 PF
noncomputable def BiNoLeast : FS :=
  (fSeq (fDrop (fCall 2 FiMannerError (fCons (fVar 0) (fCons (fC (.da (.str "this shows no leastness"))) fNil))))
  (fSeq (fSetX xb xcs xfl "word" (fVar 0) (fVar 1))
  (fSetX xb xcs xfl "number" (fVar 0) (fVar 2))))
noncomputable def FiNoLeast : FF := bodyF 3 BiNoLeast
theorem sciNoLeast : FnScope ["self", "word", "number"] ["self", "word", "number"] (defScope s_iNoLeast) := ⟨rfl, rfl, rfl, by decide +kernel, rfl, by decide +kernel, by decide +kernel⟩
section
variable {P : Program} {w : World} {K : PySem.W.Frag} {mg : Str -> Option Value} {base : Heap}
theorem okiNoLeast (T : Txt0 K mg) : InitX P w K mg base "NoLeast" 3 3 FiNoLeast := by
 have ciMannerError := okiMannerError (P := P) (w := w) (base := base) T
 exact initXF (k := 2) T.hx_NoLeast sciNoLeast rfl rfl (fun f cdv A outer s H E hr =>
   (rss_cons (rs_expr (re_callC ciMannerError (hr.mono (by decide)) (ra_cons (re_var 0) (ra_cons re_str ra_nil))))
   (rss_cons (rs_fldX T.x (re_var 0) (re_var 1))
   (rss_one (rs_fldX T.x (re_var 0) (re_var 2))))))
end
end Ln
namespace Ln
open PySem L2 PF
noncomputable def BiNoWish : FS :=
  (fSeq (fDrop (fCall 2 FiMannerError (fCons (fVar 0) (fCons (fC (.da (.str "this shows nothing of the wish"))) fNil))))
  (fSeq (fSetX xb xcs xfl "word" (fVar 0) (fVar 1))
  (fSetX xb xcs xfl "number" (fVar 0) (fVar 2))))
noncomputable def FiNoWish : FF := bodyF 3 BiNoWish
theorem sciNoWish : FnScope ["self", "word", "number"] ["self", "word", "number"] (defScope s_iNoWish) := ⟨rfl, rfl, rfl, by decide +kernel, rfl, by decide +kernel, by decide +kernel⟩
section
variable {P : Program} {w : World} {K : PySem.W.Frag} {mg : Str -> Option Value} {base : Heap}
theorem okiNoWish (T : Txt0 K mg) : InitX P w K mg base "NoWish" 3 3 FiNoWish := by
 have ciMannerError := okiMannerError (P := P) (w := w) (base := base) T
 exact initXF (k := 2) T.hx_NoWish sciNoWish rfl rfl (fun f cdv A outer s H E hr =>
   (rss_cons (rs_expr (re_callC ciMannerError (hr.mono (by decide)) (ra_cons (re_var 0) (ra_cons re_str ra_nil))))
   (rss_cons (rs_fldX T.x (re_var 0) (re_var 1))
   (rss_one (rs_fldX T.x (re_var 0) (re_var 2))))))
end
end Ln
namespace Ln
open PySem L2 PF
noncomputable def BiNoTable : FS :=
  (fSeq (fDrop (fCall 2 FiMannerError (fCons (fVar 0) (fCons (fC (.da (.str "no net is built for this table"))) fNil))))
  (fSetX xb xcs xfl "word" (fVar 0) (fVar 1)))
noncomputable def FiNoTable : FF := bodyF 2 BiNoTable
theorem sciNoTable : FnScope ["self", "word"] ["self", "word"] (defScope s_iNoTable) := ⟨rfl, rfl, rfl, by decide +kernel, rfl, by decide +kernel, by decide +kernel⟩
section
variable {P : Program} {w : World} {K : PySem.W.Frag} {mg : Str -> Option Value} {base : Heap}
theorem okiNoTable (T : Txt0 K mg) : InitX P w K mg base "NoTable" 3 2 FiNoTable := by
 have ciMannerError := okiMannerError (P := P) (w := w) (base := base) T
 exact initXF (k := 2) T.hx_NoTable sciNoTable rfl rfl (fun f cdv A outer s H E hr =>
   (rss_cons (rs_expr (re_callC ciMannerError (hr.mono (by decide)) (ra_cons (re_var 0) (ra_cons re_str ra_nil))))
   (rss_one (rs_fldX T.x (re_var 0) (re_var 1)))))
end
end Ln
namespace Ln
open PySem L2 PF
section
variable {P : Program} {w : World} {K : PySem.W.Frag} {mg : Str -> Option Value} {base : Heap}
theorem okiNoBack (T : Txt0 K mg) : InitX P w K mg base "NoBack" 1 2 FiMannerError := by
 exact initXF (k := 0) T.hx_NoBack sciMannerError rfl rfl (fun f cdv A outer s H E hr =>
   (rss_one (rs_expr (re_initV T.x T.n_ValueError (ra_cons (re_var 0) (ra_cons (re_var 1) ra_nil))))))
end
end Ln
namespace Ln
open PySem L2 PF
section
variable {P : Program} {w : World} {K : PySem.W.Frag} {mg : Str -> Option Value} {base : Heap}
theorem okiNoRow (T : Txt0 K mg) : InitX P w K mg base "NoRow" 1 2 FiMannerError := by
 exact initXF (k := 0) T.hx_NoRow sciMannerError rfl rfl (fun f cdv A outer s H E hr =>
   (rss_one (rs_expr (re_initV T.x T.n_ValueError (ra_cons (re_var 0) (ra_cons (re_var 1) ra_nil))))))
end
end Ln
namespace Ln
open PySem L2 PF
noncomputable def B_law_feed : FS :=
  (fRet (fLst true (fCons (fCB (gList false) (fCons (fSl false (fVar 0) fNo (fSome (fC (.da (.int 63))))) fNil)) (fCons (fC (.da (.int 0))) (fCons (fC (.da (.int 0))) (fCons (fC (.da (.int 0))) fNil))))))
noncomputable def F_law_feed : FF := bodyF 1 B_law_feed
theorem e_law_feed {a0 : D} {s : S} : F_law_feed [a0] s = (B_law_feed [some a0] s).bind kBody := rfl
theorem sc_law_feed : FnScope ["_law_script"] ["_law_script"] (defScope s__law_feed) := ⟨rfl, rfl, rfl, by decide +kernel, rfl, by decide +kernel, by decide +kernel⟩
section
variable {P : Program} {w : World} {K : PySem.W.Frag} {mg : Str -> Option Value} {base : Heap}
theorem ok_law_feed (T : Txt0 K mg) : CalF P w K mg base "_law_feed" 1 1 F_law_feed := by
 exact calF (k := 0) T.h__law_feed sc_law_feed rfl rfl (fun f cdv A outer s H E hr =>
   (rss_one (rs_ret (re_lst true (ra_cons (re_ct (c_list false) T.n_list b_list (ra_cons (re_slice false (re_var 0) ro_none (ro_some re_int)) ra_nil)) (ra_cons re_int (ra_cons re_int (ra_cons re_int ra_nil))))))))
end
end Ln
namespace Ln
open PySem L2 PF
noncomputable def B_law_draw : FS :=
  (fSeq (fSetIt (fOp (gAdd false) (fOp gIx (fVar 0) (fC (.da (.int 3)))) (fC (.da (.int 1)))) (fVar 0) (fC (.da (.int 3))))
  (fSeq (fIfS (fTest (fOp gGt (fOp gIx (fVar 0) (fC (.da (.int 2)))) (fC (.da (.int 0))))) (fSeq (fSet 2 (fOp gMod (fOp gIx (fVar 0) (fC (.da (.int 2)))) (fVar 1)))
  (fSeq (fSetIt (fOp gDiv (fOp gIx (fVar 0) (fC (.da (.int 2)))) (fVar 1)) (fVar 0) (fC (.da (.int 2))))
  (fRet (fVar 2)))) fNext)
  (fSeq (fSet 3 (fC (.da (.int 5))))
  (fSeq (fIfS (fTest (fOp gNe (fOp gIx (fVar 0) (fC (.da (.int 0)))) (fLst false fNil))) (fSet 3 (fOp gIx (fOp gIx (fVar 0) (fC (.da (.int 0)))) (fOp gMod (fOp gIx (fVar 0) (fC (.da (.int 1)))) (fCB gLen (fCons (fOp gIx (fVar 0) (fC (.da (.int 0)))) fNil))))) fNext)
  (fSeq (fSetIt (fOp (gAdd false) (fOp gIx (fVar 0) (fC (.da (.int 1)))) (fC (.da (.int 1)))) (fVar 0) (fC (.da (.int 1))))
  (fSeq (fIfS (fAndT (fTest (fOp gGe (fVar 3) (fOp gPow (fC (.da (.int 10))) (fC (.da (.int 18)))))) (fTest (fOp gLe (fOp gIx (fVar 0) (fC (.da (.int 1)))) (fCB gLen (fCons (fOp gIx (fVar 0) (fC (.da (.int 0)))) fNil))))) (fSeq (fSetIt (fOp gDiv (fVar 3) (fVar 1)) (fVar 0) (fC (.da (.int 2))))
  (fRet (fOp gMod (fVar 3) (fVar 1)))) fNext)
  (fSeq (fSet 4 (fOp gMod (fOp gMul (fOp (gAdd false) (fOp gMod (fVar 3) (fC (.da (.int 998244353)))) (fOp gMul (fC (.da (.int 5003))) (fOp gIx (fVar 0) (fC (.da (.int 3)))))) (fC (.da (.int 69621)))) (fC (.da (.int 2147483629)))))
  (fSeq (fSet 4 (fOp gMod (fOp gMul (fOp (gAdd false) (fOp gDiv (fVar 4) (fC (.da (.int 13)))) (fOp gMul (fOp gMul (fC (.da (.int 7919))) (fOp gIx (fVar 0) (fC (.da (.int 3))))) (fOp gIx (fVar 0) (fC (.da (.int 3)))))) (fC (.da (.int 48271)))) (fC (.da (.int 2147483587)))))
  (fRet (fOp gMod (fOp gDiv (fVar 4) (fC (.da (.int 64)))) (fVar 1)))))))))))
noncomputable def F_law_draw : FF := bodyF 5 B_law_draw
theorem e_law_draw {a0 a1 : D} {s : S} : F_law_draw [a0, a1] s = (B_law_draw [some a0, some a1, none, none, none] s).bind kBody := rfl
theorem sc_law_draw : FnScope ["_law_feed_here", "_law_many", "_law_found", "_law_cell", "_law_mixed"] ["_law_feed_here", "_law_many"] (defScope s__law_draw) := ⟨rfl, rfl, rfl, by decide +kernel, rfl, by decide +kernel, by decide +kernel⟩
section
variable {P : Program} {w : World} {K : PySem.W.Frag} {mg : Str -> Option Value} {base : Heap}
theorem ok_law_draw (T : Txt0 K mg) : CalF P w K mg base "_law_draw" 1 2 F_law_draw := by
 exact calF (k := 0) T.h__law_draw sc_law_draw rfl rfl (fun f cdv A outer s H E hr =>
   (rss_cons (rs_sub (re_op (o_add false) (re_ix (re_var 0) re_int) re_int) (re_var 0) re_int)
   (rss_cons (rs_if (rt_cmp o_gt (re_ix (re_var 0) re_int) re_int) (rss_cons (rs_set (i := 2) sc_law_draw.nd rfl (Or.inl rfl) (re_op o_mod (re_ix (re_var 0) re_int) (re_var 1)))
   (rss_cons (rs_sub (re_op o_div (re_ix (re_var 0) re_int) (re_var 1)) (re_var 0) re_int)
   (rss_one (rs_ret (re_var 2))))) rss_nil)
   (rss_cons (rs_set (i := 3) sc_law_draw.nd rfl (Or.inl rfl) re_int)
   (rss_cons (rs_if (rt_cmp (o_ne (u64 hr)) (re_ix (re_var 0) re_int) (re_lst false ra_nil)) (rss_one (rs_set (i := 3) sc_law_draw.nd rfl (Or.inl rfl) (re_ix (re_ix (re_var 0) re_int) (re_op o_mod (re_ix (re_var 0) re_int) (re_cb c_len T.n_len b_len (ra_cons (re_ix (re_var 0) re_int) ra_nil)))))) rss_nil)
   (rss_cons (rs_sub (re_op (o_add false) (re_ix (re_var 0) re_int) re_int) (re_var 0) re_int)
   (rss_cons (rs_if (RW.rt (rw_and (rt_cmp o_ge (re_var 3) (re_op o_pow re_int re_int)) (rw_and1 (rt_cmp o_le (re_ix (re_var 0) re_int) (re_cb c_len T.n_len b_len (ra_cons (re_ix (re_var 0) re_int) ra_nil)))))) (rss_cons (rs_sub (re_op o_div (re_var 3) (re_var 1)) (re_var 0) re_int)
   (rss_one (rs_ret (re_op o_mod (re_var 3) (re_var 1))))) rss_nil)
   (rss_cons (rs_set (i := 4) sc_law_draw.nd rfl (Or.inl rfl) (re_op o_mod (re_op o_mul (re_op (o_add false) (re_op o_mod (re_var 3) re_int) (re_op o_mul re_int (re_ix (re_var 0) re_int))) re_int) re_int))
   (rss_cons (rs_set (i := 4) sc_law_draw.nd rfl (Or.inl rfl) (re_op o_mod (re_op o_mul (re_op (o_add false) (re_op o_div (re_var 4) re_int) (re_op o_mul (re_op o_mul re_int (re_ix (re_var 0) re_int)) (re_ix (re_var 0) re_int))) re_int) re_int))
   (rss_one (rs_ret (re_op o_mod (re_op o_div (re_var 4) re_int) (re_var 1)))))))))))))
end
end Ln
namespace Ln
open PySem L2 PF
noncomputable def B_law_kinds : FS :=
  (fSeq (fSet 1 (fLst false (fCons (fCB (gIsx xb xcs) (fCons (fVar 0) (fCons (fC (.fn "NoNet")) fNil))) (fCons (fCB (gIsx xb xcs) (fCons (fVar 0) (fCons (fC (.fn "NoText")) fNil))) (fCons (fCB (gIsx xb xcs) (fCons (fVar 0) (fCons (fC (.fn "NoMoment")) fNil))) (fCons (fCB (gIsx xb xcs) (fCons (fVar 0) (fCons (fC (.fn "TooMany")) fNil))) fNil))))))
  (fSeq (fSet 1 (fOp (gAdd false) (fVar 1) (fLst false (fCons (fCB (gIsx xb xcs) (fCons (fVar 0) (fCons (fC (.fn "NoJoin")) fNil))) (fCons (fCB (gIsx xb xcs) (fCons (fVar 0) (fCons (fC (.fn "NoAlike")) fNil))) (fCons (fCB (gIsx xb xcs) (fCons (fVar 0) (fCons (fC (.fn "NoLeast")) fNil))) (fCons (fCB (gIsx xb xcs) (fCons (fVar 0) (fCons (fC (.fn "NoWish")) fNil))) fNil)))))))
  (fRet (fOp (gAdd false) (fVar 1) (fLst false (fCons (fCB (gIsx xb xcs) (fCons (fVar 0) (fCons (fC (.fn "NoTable")) fNil))) (fCons (fCB (gIsx xb xcs) (fCons (fVar 0) (fCons (fC (.fn "NoBack")) fNil))) (fCons (fCB (gIsx xb xcs) (fCons (fVar 0) (fCons (fC (.fn "NoRow")) fNil))) fNil))))))))
noncomputable def F_law_kinds : FF := bodyF 2 B_law_kinds
theorem e_law_kinds {a0 : D} {s : S} : F_law_kinds [a0] s = (B_law_kinds [some a0, none] s).bind kBody := rfl
theorem sc_law_kinds : FnScope ["_law_e", "_law_found"] ["_law_e"] (defScope s__law_kinds) := ⟨rfl, rfl, rfl, by decide +kernel, rfl, by decide +kernel, by decide +kernel⟩
section
variable {P : Program} {w : World} {K : PySem.W.Frag} {mg : Str -> Option Value} {base : Heap}
theorem ok_law_kinds (T : Txt0 K mg) : CalF P w K mg base "_law_kinds" 1 1 F_law_kinds := by
 exact calF (k := 0) T.h__law_kinds sc_law_kinds rfl rfl (fun f cdv A outer s H E hr =>
   (rss_cons (rs_set (i := 1) sc_law_kinds.nd rfl (Or.inl rfl) (re_lst false (ra_cons (re_cb (c_isx T.x) T.n_isinstance b_isinstance (ra_cons (re_var 0) (ra_cons (re_cls T.x rfl) ra_nil))) (ra_cons (re_cb (c_isx T.x) T.n_isinstance b_isinstance (ra_cons (re_var 0) (ra_cons (re_cls T.x rfl) ra_nil))) (ra_cons (re_cb (c_isx T.x) T.n_isinstance b_isinstance (ra_cons (re_var 0) (ra_cons (re_cls T.x rfl) ra_nil))) (ra_cons (re_cb (c_isx T.x) T.n_isinstance b_isinstance (ra_cons (re_var 0) (ra_cons (re_cls T.x rfl) ra_nil))) ra_nil))))))
   (rss_cons (rs_set (i := 1) sc_law_kinds.nd rfl (Or.inl rfl) (re_op (o_add false) (re_var 1) (re_lst false (ra_cons (re_cb (c_isx T.x) T.n_isinstance b_isinstance (ra_cons (re_var 0) (ra_cons (re_cls T.x rfl) ra_nil))) (ra_cons (re_cb (c_isx T.x) T.n_isinstance b_isinstance (ra_cons (re_var 0) (ra_cons (re_cls T.x rfl) ra_nil))) (ra_cons (re_cb (c_isx T.x) T.n_isinstance b_isinstance (ra_cons (re_var 0) (ra_cons (re_cls T.x rfl) ra_nil))) (ra_cons (re_cb (c_isx T.x) T.n_isinstance b_isinstance (ra_cons (re_var 0) (ra_cons (re_cls T.x rfl) ra_nil))) ra_nil)))))))
   (rss_one (rs_ret (re_op (o_add false) (re_var 1) (re_lst false (ra_cons (re_cb (c_isx T.x) T.n_isinstance b_isinstance (ra_cons (re_var 0) (ra_cons (re_cls T.x rfl) ra_nil))) (ra_cons (re_cb (c_isx T.x) T.n_isinstance b_isinstance (ra_cons (re_var 0) (ra_cons (re_cls T.x rfl) ra_nil))) (ra_cons (re_cb (c_isx T.x) T.n_isinstance b_isinstance (ra_cons (re_var 0) (ra_cons (re_cls T.x rfl) ra_nil))) ra_nil))))))))))
end
end Ln
namespace Ln
open PySem L2 PF
noncomputable def Blaw : FS :=
  (fSeq (fSet 1 (fCall 1 F_law_feed (fCons (fVar 0) fNil)))
  (fSeq (fSet 2 (fOp gIx (fLst false (fVs (List.map D.da [.str "shape", .str "ports", .str "moment", .str "", .str "begin"]))) (fCall 2 F_law_draw (fCons (fVar 1) (fCons (fC (.da (.int 5))) fNil)))))
  (fSeq (fSet 3 (fOp gIx (fLst false (fCons (fVar 2) (fCons (fVar 2) (fCons (fC (.da (.none))) (fCons (fLst false (fCons (fC (.da (.int 1))) fNil)) (fCons (fTup fNil) (fCons fDctE (fCons (fC (.da (.bool true))) (fCons (fC (.da (.int 7))) fNil))))))))) (fCall 2 F_law_draw (fCons (fVar 1) (fCons (fC (.da (.int 8))) fNil)))))
  (fSeq (fSet 4 (fOp gIx (fLst false (fCons (fNeg (fC (.da (.int 1)))) (fCons (fC (.da (.int 0))) (fCons (fOp (gAdd false) (fOp gPow (fC (.da (.int 10))) (fC (.da (.int 12)))) (fCall 2 F_law_draw (fCons (fVar 1) (fCons (fC (.da (.int 9))) fNil)))) (fCons (fC (.da (.none))) (fCons (fLst false (fCons (fC (.da (.int 2))) fNil)) (fCons (fC (.da (.str "a"))) (fCons (fFrzD (fDctP (fpCons (fC (.da (.int 1))) (fTup fNil) fpNil))) (fCons (fC (.da (.bool false))) fNil))))))))) (fCall 2 F_law_draw (fCons (fVar 1) (fCons (fC (.da (.int 8))) fNil)))))
  (fSeq (fSet 5 (fCB gTuple (fCons (fLc false [1] 1 (fRng (fCons (fCall 2 F_law_draw (fCons (fVar 1) (fCons (fC (.da (.int 4))) fNil))) fNil)) (.nm 0) fYes (fCall 2 F_law_draw (fCons (fVar 1) (fCons (fC (.da (.int 12))) fNil)))) fNil)))
  (fSeq (fSet 5 (fOp gIx (fLst false (fCons (fVar 5) (fCons (fVar 5) (fCons (fVar 5) (fCons (fC (.da (.none))) (fCons (fLst false (fCons (fC (.da (.int 0))) fNil)) (fCons (fC (.da (.str "a"))) (fCons fDctE (fCons (fC (.da (.int 3))) fNil))))))))) (fCall 2 F_law_draw (fCons (fVar 1) (fCons (fC (.da (.int 8))) fNil)))))
  (fSeq (fSet 6 (fLst true (fCons (fMakeX "NoNet" 3 FiNoNet (fCons (fVar 3) (fCons (fVar 5) fNil))) (fCons (fMakeX "NoText" 2 FiNoText (fCons (fVar 4) fNil)) (fCons (fMakeX "NoMoment" 2 FiNoMoment (fCons (fVar 4) fNil)) (fCons (fMakeX "TooMany" 2 FiTooMany (fCons (fVar 3) fNil)) (fCons (fMakeX "NoJoin" 2 FiNoJoin (fCons (fVar 3) fNil)) (fCons (fMakeX "NoAlike" 3 FiNoAlike (fCons (fVar 3) (fCons (fVar 4) fNil))) fNil))))))))
  (fSeq (fSet 6 (fOp (gAdd true) (fVar 6) (fLst true (fCons (fMakeX "NoLeast" 3 FiNoLeast (fCons (fVar 3) (fCons (fVar 4) fNil))) (fCons (fMakeX "NoWish" 3 FiNoWish (fCons (fVar 3) (fCons (fVar 4) fNil))) (fCons (fMakeX "NoTable" 2 FiNoTable (fCons (fVar 3) fNil)) (fCons (fMakeX "NoBack" 2 FiMannerError (fCons (fVar 2) fNil)) (fCons (fMakeX "NoRow" 2 FiMannerError (fCons (fVar 2) fNil)) fNil))))))))
  (fSeq (fFor (fRng (fCons (fCB gLen (fCons (fVar 6) fNil)) fNil)) (.nm 7) (fSeq (fSet 8 (fOp gIx (fVar 6) (fVar 7)))
  (fSeq (fIfS (fOrT (fNotT (fTru (fCB (gIsx xb xcs) (fCons (fVar 8) (fCons (fC (.fn "MannerError")) fNil))))) (fNotT (fTru (fCB (gIsx xb xcs) (fCons (fVar 8) (fCons (fC (.ty "ValueError")) fNil)))))) (fRet (fC (.da (.bool false)))) fNext)
  (fIfS (fTest (fOp gNe (fCall 1 F_law_kinds (fCons (fVar 8) fNil)) (fLc false [7] 1 (fRng (fCons (fC (.da (.int 11))) fNil)) (.nm 0) fYes (fOp gEq (fVar 0) (fVar 1))))) (fRet (fC (.da (.bool false)))) fNext))))
  (fSeq (fSet 9 (fOp (gAdd false) (fLst false (fCons (fFldX xb xcs xfl "word" (fOp gIx (fVar 6) (fC (.da (.int 0))))) (fCons (fFldX xb xcs xfl "path" (fOp gIx (fVar 6) (fC (.da (.int 0))))) (fCons (fFldX xb xcs xfl "row" (fOp gIx (fVar 6) (fC (.da (.int 1))))) (fCons (fFldX xb xcs xfl "number" (fOp gIx (fVar 6) (fC (.da (.int 2))))) fNil))))) (fLc false [] 1 (fIt (fSl true (fVar 6) (fSome (fC (.da (.int 5)))) (fSome (fC (.da (.int 8)))))) (.nm 0) fYes (fFldX xb xcs xfl "number" (fVar 0)))))
  (fSeq (fIfS (fOrT (fTest (fOp gNe (fCB gReprE (fCons (fVar 9) fNil)) (fCB gReprE (fCons (fOp (gAdd false) (fLst false (fCons (fVar 3) (fCons (fVar 5) fNil))) (fOp (gMulL false) (fLst false (fCons (fVar 4) fNil)) (fC (.da (.int 5))))) fNil)))) (fTest (fOp gNe (fCB gReprE (fCons (fLc false [] 1 (fIt (fSl true (fVar 6) (fSome (fC (.da (.int 3)))) (fSome (fC (.da (.int 9)))))) (.nm 0) fYes (fFldX xb xcs xfl "word" (fVar 0))) fNil)) (fCB gReprE (fCons (fOp (gMulL false) (fLst false (fCons (fVar 3) fNil)) (fC (.da (.int 6)))) fNil))))) (fRet (fC (.da (.bool false)))) fNext)
  (fSeq (fSet 10 (fMakeX "MannerError" 2 FiMannerError (fCons (fC (.da (.str "a text"))) fNil)))
  (fRet (fAnd (fCB (gIsx xb xcs) (fCons (fVar 10) (fCons (fC (.ty "ValueError")) fNil))) (fOp gNotIn (fC (.da (.bool true))) (fCall 1 F_law_kinds (fCons (fVar 10) fNil)))))))))))))))))
noncomputable def Flaw : FF := bodyF 11 Blaw
theorem elaw {a0 : D} {s : S} : Flaw [a0] s = (Blaw [some a0, none, none, none, none, none, none, none, none, none, none] s).bind kBody := rfl
theorem sclaw : FnScope ["_law_script", "_law_feed_here", "_law_text", "_law_word", "_law_number", "_law_path", "_law_made", "_law_k", "_law_e", "_law_told", "_law_plain"] ["_law_script"] (defScope s_law) := ⟨rfl, rfl, rfl, by decide +kernel, rfl, by decide +kernel, by decide +kernel⟩
end Ln
local macro_rules | `(tactic| walk_at "ev") => do
  let ns := "PF.gAdd_int PF.gLe_int PF.gGt_int PF.gGe_int PF.e_op PF.e_op1 PF.e_op2 PF.e_c PF.e_var0 PF.e_var1 PF.e_var2 PF.e_var3 PF.e_var4 PF.e_seq PF.e_seqn PF.e_seqr PF.e_ret PF.e_ret1 PF.e_next PF.e_drop1 PF.e_set PF.e_ifS PF.e_ifT PF.e_ifF PF.e_test PF.e_test1 PF.e_andT PF.e_andT1 PF.e_andT0 PF.e_nil PF.e_cons PF.e_cons1 PF.e_cons2 PF.e_lst PF.lst0 PF.e_sl PF.e_sl1 PF.e_sl2 PF.e_sl3 PF.e_no PF.e_some PF.e_some1 PF.e_cb PF.len_lst PF.list_lst PF.tuple_lst PF.sl_frz PF.e_bodyr PF.e_setIt PF.e_setIt1 PF.e_setIt2 PF.e_setIt3 PF.loop_nx PF.comp_t PF.comp_x PF.R.bind_ok' PF.R.W_ok' Bool.not_true Bool.not_false decide_true decide_false Bool.and_true Bool.and_false Bool.true_and Bool.false_and List.length_append List.length_cons List.length_nil List.append_assoc List.cons_append List.nil_append Nat.zero_add Nat.reduceAdd PF.lstN4 Nat.reduceLeDiff if_true if_false Bool.false_eq_true".splitOn " "
  let ids : Array (Lean.TSyntax `term) := ns.toArray.map fun n => Lean.mkIdent n.toName
  `(tactic| try simp only [$[$ids:term],*])
local macro_rules | `(tactic| walk_at "go") => `(tactic| (walk_at "ev"; (try simp only [])))
namespace Ln
open PySem L2 PF
section
variable {s : S} {n : Nat} {a b c d v : D}
theorem ix4 (k : Nat) {ds : List D} {x : D} (hl : n < s.length) (h : ds[k]? = some x) : gIx (.ref n) (.int (k : Int)) (s.set n (.lst ds)) = .ok x (s.set n (.lst ds)) := gIx_ref (List.getElem?_set_self hl) h
theorem st4 (k : Nat) {ds : List D} (hl : n < s.length) (h : k < ds.length) : gSet (.ref n) (.int (k : Int)) v (s.set n (.lst ds)) = .ok .non (s.set n (.lst (ds.set k v))) := by
 rw [gSet_ref (List.getElem?_set_self hl) h, List.set_set]
theorem ix0 (hl : n < s.length) : gIx (.ref n) (.int 0) (s.set n (.lst [a, b, c, d])) = .ok a (s.set n (.lst [a, b, c, d])) := ix4 0 hl rfl
theorem ix1 (hl : n < s.length) : gIx (.ref n) (.int 1) (s.set n (.lst [a, b, c, d])) = .ok b (s.set n (.lst [a, b, c, d])) := ix4 1 hl rfl
theorem ix2 (hl : n < s.length) : gIx (.ref n) (.int 2) (s.set n (.lst [a, b, c, d])) = .ok c (s.set n (.lst [a, b, c, d])) := ix4 2 hl rfl
theorem ix3 (hl : n < s.length) : gIx (.ref n) (.int 3) (s.set n (.lst [a, b, c, d])) = .ok d (s.set n (.lst [a, b, c, d])) := ix4 3 hl rfl
theorem st1 (hl : n < s.length) : gSet (.ref n) (.int 1) v (s.set n (.lst [a, b, c, d])) = .ok .non (s.set n (.lst [a, v, c, d])) := st4 1 hl (by simp)
theorem st2 (hl : n < s.length) : gSet (.ref n) (.int 2) v (s.set n (.lst [a, b, c, d])) = .ok .non (s.set n (.lst [a, b, v, d])) := st4 2 hl (by simp)
theorem st3 (hl : n < s.length) : gSet (.ref n) (.int 3) v (s.set n (.lst [a, b, c, d])) = .ok .non (s.set n (.lst [a, b, c, v])) := st4 3 hl (by simp)
end
structure Fd (s : S) (n c : Nat) : Prop where
 ex : ∃ (xs : List Int) (i j k : Int), s[n]? = some (.lst [.lst (xs.map PyData.int), .int i, .int j, .int k]) /\ xs.length <= 63 /\ 0 <= i /\ 0 <= k /\ k <= c
theorem fd_set {s : S} {n c : Nat} {xs : List Int} {i j k : Int} (hl : n < s.length) (hx : xs.length <= 63) (hi : 0 <= i) (hk : 0 <= k) (hc : k <= c) : Fd (s.set n (.lst [.lst (xs.map PyData.int), .int i, .int j, .int k])) n c := ⟨xs, i, j, k, List.getElem?_set_self hl, hx, hi, hk, hc⟩
theorem eqv_nil (xs : List PyData) : PyData.eqv (.list xs) (.list []) = xs.isEmpty := by cases xs <;> rfl
theorem lay_ints : ∀ xs : List Int, PyData.canLayAll0 (xs.map PyData.int) = true
 | [] => rfl
 | x :: r => by simp only [List.map_cons, PyData.canLayAll0, PyData.canLay0, lay_ints r, Bool.and_self]
theorem depth_ints : ∀ xs : List Int, PyData.depthAll (xs.map PyData.int) <= 1
 | [] => by (simp [PyData.depthAll])
 | x :: r => by simp only [List.map_cons, PyData.depthAll, PyData.depth]; have := depth_ints r; omega
theorem okD_ints (xs : List Int) : okD (.list (xs.map PyData.int)) = true := by
 unfold okD
 rw [Bool.and_eq_true]
 refine ⟨by simp only [PyData.canLay0]; exact lay_ints xs, decide_eq_true ?_⟩
 simp only [PyData.depth]
 have := depth_ints xs
 omega
theorem draw_ok {s : S} {n c : Nat} {m : Int} (h : Fd s n c) (hm : 0 < m) (hm2 : m < 1073741824) (hc : c < 2 ^ 40) : (F_law_draw [.ref n, .int m] s).W fun d s' => ∃ i, d = .int i /\ 0 <= i /\ i < m /\ Fd s' n (c + 1) /\ Same n s s' := by
 obtain ⟨xs, i, j, k, e, hx, hi, hk, hkc⟩ := h.ex
 have hl : n < s.length := (List.getElem?_eq_some_iff.mp e).1
 have e0 : F_law_draw [.ref n, .int m] s = F_law_draw [.ref n, .int m] (s.set n (.lst [.lst (xs.map PyData.int), .int i, .int j, .int k])) := by rw [set_self e]
 rw [e0, e_law_draw]; unfold B_law_draw
 have fin : ∀ x : Int, 0 <= x % m /\ x % m < m := fun x => ⟨Int.emod_nonneg _ (by omega), Int.emod_lt_of_pos _ hm⟩
 have p18 : ∀ s : S, gPow (.int 10) (.int 18) s = .ok (.int 1000000000000000000) s := fun s => gPow_int (by decide) (by decide) (by decide)
 by_cases hj : 0 < j
 ·simp [ix0 hl, ix1 hl, ix2 hl, ix3 hl, st1 hl, st2 hl, st3 hl, hj, gMod_int hm, gDiv_int hm hm2]
  exact ⟨(fin _).1, (fin _).2, fd_set hl hx hi (by omega) (by omega), same_set⟩
 ·have q1 : ∀ (x : Int) (s : S), gMod (.int x) (.int 998244353) s = .ok (.int (x % 998244353)) s := fun x s => gMod_int (by decide)
  have q2 : ∀ (x : Int) (s : S), gMul (.int 5003) (.int x) s = .ok (.int (5003 * x)) s := fun x s => gMul_int (.inl (by decide))
  have q3 : ∀ (x : Int) (s : S), gMul (.int x) (.int 69621) s = .ok (.int (x * 69621)) s := fun x s => gMul_int (.inr (by decide))
  have q4 : ∀ (x : Int) (s : S), gMod (.int x) (.int 2147483629) s = .ok (.int (x % 2147483629)) s := fun x s => gMod_int (by decide)
  have q5 : ∀ (x : Int) (s : S), gDiv (.int x) (.int 13) s = .ok (.int (x / 13)) s := fun x s => gDiv_int (by decide) (by decide)
  have q6 : ∀ (x : Int) (s : S), gMul (.int 7919) (.int x) s = .ok (.int (7919 * x)) s := fun x s => gMul_int (.inl (by decide))
  have q7 : ∀ (x : Int) (s : S), gMul (.int x) (.int (k + 1)) s = .ok (.int (x * (k + 1))) s := fun x s => gMul_int (.inr (by omega))
  have q8 : ∀ (x : Int) (s : S), gMul (.int x) (.int 48271) s = .ok (.int (x * 48271)) s := fun x s => gMul_int (.inr (by decide))
  have q9 : ∀ (x : Int) (s : S), gMod (.int x) (.int 2147483587) s = .ok (.int (x % 2147483587)) s := fun x s => gMod_int (by decide)
  have q10 : ∀ (x : Int) (s : S), gDiv (.int x) (.int 64) s = .ok (.int (x / 64)) s := fun x s => gDiv_int (by decide) (by decide)
  have qe : ∀ (s : S), gNe (.lst (xs.map PyData.int)) (.lst []) s = .ok (.bl (!xs.isEmpty)) s := fun s => by
   rw [gNe_da (okD_ints xs) rfl, eqv_nil]
   cases xs <;> rfl
  cases hxs : xs with
  | nil =>
   subst hxs
   have qe0 : ∀ s : S, gNe (.lst []) (.lst []) s = .ok (.bl false) s := fun s => gNe_da rfl rfl
   simp [qe0, ix0 hl, ix1 hl, ix2 hl, ix3 hl, st1 hl, st2 hl, st3 hl, hj, gMod_int hm, gDiv_int hm hm2, p18, q1, q2, q3, q4, q5, q6, q7, q8, q9, q10, qe]
   exact ⟨(fin _).1, (fin _).2, fd_set (xs := []) hl (by simp) (by omega) (by omega) (by omega), same_set⟩
  | cons y ys =>
   have hne : xs ≠ [] := by rw [hxs]; simp
   have hlen : 0 < (xs.length : Int) := by rw [hxs]; simp
   rw [← hxs]
   have qe' : xs.isEmpty = false := by rw [hxs]; rfl
   have ixx : ∀ s : S, gIx (.lst (xs.map PyData.int)) (.int (i % (xs.length : Int))) s = .ok (.int (xs.getD (i % (xs.length : Int)).toNat 0)) s := fun s => by
    have h0 := Int.emod_nonneg i (show (xs.length : Int) ≠ 0 by omega)
    have h1 := Int.emod_lt_of_pos i hlen
    obtain ⟨q, hq⟩ : ∃ q : Nat, i % (xs.length : Int) = q := ⟨(i % (xs.length : Int)).toNat, by omega⟩
    rw [hq]
    have hlt : q < xs.length := by omega
    rw [gIx_lst (p := .int (xs.getD q 0)) (by rw [List.getElem?_map, List.getElem?_eq_getElem hlt, List.getD_eq_getElem?_getD, List.getElem?_eq_getElem hlt]; rfl)]
    rfl
   generalize hcell : xs.getD (i % (xs.length : Int)).toNat 0 = cell at ixx
   have qm : ∀ s : S, gMod (.int i) (.int (xs.length : Int)) s = .ok (.int (i % (xs.length : Int))) s := fun s => gMod_int hlen
   by_cases hb : 1000000000000000000 <= cell
   ·by_cases hb2 : i + 1 <= (xs.length : Int)
    ·simp [ix0 hl, ix1 hl, ix2 hl, ix3 hl, st1 hl, st2 hl, st3 hl, hj, gMod_int hm, gDiv_int hm hm2, p18, q1, q2, q3, q4, q5, q6, q7, q8, q9, q10, qe, qe', ixx, qm, hb, hb2]
     exact ⟨(fin _).1, (fin _).2, fd_set hl hx (by omega) (by omega) (by omega), same_set⟩
    ·simp [ix0 hl, ix1 hl, ix2 hl, ix3 hl, st1 hl, st2 hl, st3 hl, hj, gMod_int hm, gDiv_int hm hm2, p18, q1, q2, q3, q4, q5, q6, q7, q8, q9, q10, qe, qe', ixx, qm, hb, hb2]
     exact ⟨(fin _).1, (fin _).2, fd_set hl hx (by omega) (by omega) (by omega), same_set⟩
   ·simp [ix0 hl, ix1 hl, ix2 hl, ix3 hl, st1 hl, st2 hl, st3 hl, hj, gMod_int hm, gDiv_int hm hm2, p18, q1, q2, q3, q4, q5, q6, q7, q8, q9, q10, qe, qe', ixx, qm, hb]
    exact ⟨(fin _).1, (fin _).2, fd_set hl hx (by omega) (by omega) (by omega), same_set⟩
theorem Fd.le {s : S} {n c c' : Nat} (h : Fd s n c) (hc : c <= c') : Fd s n c' := by
 obtain ⟨xs, i, j, k, e, hx, hi, hk, hkc⟩ := h.ex
 exact ⟨xs, i, j, k, e, hx, hi, hk, by omega⟩
theorem Fd.ext {s s' : S} {n c : Nat} (h : Fd s n c) (x : Ext s s') : Fd s' n c := by
 obtain ⟨xs, i, j, k, e, r⟩ := h.ex
 exact ⟨xs, i, j, k, x.get e, r⟩
theorem cut_to {α : Type} (l : List α) (t : Nat) : cutL l none (some (t : Int)) = l.take t := by
 unfold cutL
 rw [HT.sIx_nat, HT.sIx_none, List.drop_zero, Nat.sub_zero, List.take_eq_take_iff]
 omega
theorem feed_ok (ns : List Int) : (F_law_feed [.frz (ns.map PyData.int)] []).W fun d s' => d = .ref 0 /\ Fd s' 0 0 := by
 rw [e_law_feed]; unfold B_law_feed
 walk_at "go"
 refine ⟨trivial, ns.take 63, 0, 0, 0, ?_, by simp; omega, by decide, by decide, by decide⟩
 rw [cutL_map, show (63 : Int) = ((63 : Nat) : Int) from rfl, cut_to]
 rfl
theorem get_app {s g : S} {o : O} : (s ++ o :: g)[s.length]? = some o := by simp
theorem set_app {s g : S} {o o' : O} : (s ++ o :: g).set s.length o' = s ++ o' :: g := by simp
abbrev isC (C : Str) : Prop := (xb :: xcs).contains C = true
theorem i_me {n : Nat} {C : Str} {fs : List (Str × D)} {t : D} {s : S} (h : s[n]? = some (.exc C fs)) (hc : isC C) : FiMannerError [.ref n, t] s = .ok .non s := by
 have e : gInitV xb xcs [.ref n, t] s = .ok .non s := by
  show (match s[n]? with | some (O.exc C fs) => (if (xb :: xcs).contains C = true then R.ok D.non s else .bad) | _ => .bad) = _
  rw [h]
  exact if_pos hc
 show ((R.bind (gInitV xb xcs [.ref n, t] s) fun _ s1 => R.ok (Fl.nx [some (.ref n), some t]) s1).bind _) = _
 rw [e]
 rfl
theorem setX_ok {ρ : En} {s : S} {n : Nat} {C f : Str} {fs : List (Str × D)} {x : D} {fo fv : FE} (hv : fv ρ s = .ok x s) (ho : fo ρ s = .ok (.ref n) s) (h : s[n]? = some (.exc C fs)) (hc : isC C) (hf : xfl.contains f = true) (hl : fs.length < 1000) :
  fSetX xb xcs xfl f fo fv ρ s = .ok (.nx ρ) (s.set n (.exc C (putN f x fs))) := by
 unfold fSetX
 rw [hv, R.bind_ok, ho, R.bind_ok]
 show (match s[n]? with | some (O.exc C fs) => (if ((xb :: xcs).contains C = true /\ xfl.contains f = true) /\ fs.length < 1000 then R.ok (Fl.nx ρ) (s.set n (.exc C (putN f x fs))) else .bad) | _ => .bad) = _
 rw [h]
 exact if_pos ⟨⟨hc, hf⟩, hl⟩
theorem seq_nx {a b : FS} {ρ ρ' : En} {s s1 : S} (h : a ρ s = .ok (.nx ρ') s1) : fSeq a b ρ s = b ρ' s1 := by
 unfold fSeq; rw [h]; rfl
theorem sup_ok {n : Nat} {C : Str} {fs : List (Str × D)} {t : D} {s : S} {r : En} (h : s[n]? = some (.exc C fs)) (hc : isC C) : fDrop (fCall 2 FiMannerError (fCons (fVar 0) (fCons (fC t) fNil))) (some (.ref n) :: r) s = .ok (.nx (some (.ref n) :: r)) s := by
 show (R.bind (FiMannerError [.ref n, t] s) fun _ s1 => R.ok (Fl.nx (some (.ref n) :: r)) s1) = _
 rw [i_me h hc]; rfl
theorem one_ok {s : S} {C f : Str} {t d : D} (hc : isC C) (hf : xfl.contains f = true) :
  ((fSeq (fDrop (fCall 2 FiMannerError (fCons (fVar 0) (fCons (fC t) fNil)))) (fSetX xb xcs xfl f (fVar 0) (fVar 1))) [some (.ref s.length), some d] (s ++ [.exc C []])).bind kBody = .ok .non (s ++ [.exc C [(f, d)]]) := by
 rw [seq_nx (sup_ok get_app hc), setX_ok (n := s.length) (x := d) rfl rfl get_app hc hf (by simp), set_app]; rfl
theorem two_ok {s : S} {C f g : Str} {t d e : D} (hc : isC C) (hf : xfl.contains f = true) (hg : xfl.contains g = true) (ne : f ≠ g) :
  ((fSeq (fDrop (fCall 2 FiMannerError (fCons (fVar 0) (fCons (fC t) fNil)))) (fSeq (fSetX xb xcs xfl f (fVar 0) (fVar 1)) (fSetX xb xcs xfl g (fVar 0) (fVar 2)))) [some (.ref s.length), some d, some e] (s ++ [.exc C []])).bind kBody = .ok .non (s ++ [.exc C [(f, d), (g, e)]]) := by
 have hp : putN g e (putN f d []) = [(f, d), (g, e)] := by
  show (if f = g then [(f, e)] else (f, d) :: putN g e []) = _
  rw [if_neg ne]; rfl
 rw [seq_nx (sup_ok get_app hc), seq_nx (setX_ok (n := s.length) (x := d) rfl rfl get_app hc hf (by simp)), set_app, setX_ok (n := s.length) (x := e) rfl rfl get_app hc hg (by simp [putN]), set_app, hp]; rfl
structure Al (fe : FE) (ρ : En) (o : O) : Prop where
 ok : ∀ s : S, fe ρ s = .ok (.ref s.length) (s ++ [o])
theorem al_make {C : Str} {n : Nat} {F : FF} {fa : FA} {ρ : En} {ds : List D} {fs : List (Str × D)} (ha : ∀ s, fa ρ s = .ok ds s) (hn : ds.length + 1 = n /\ n < 1000) (hF : ∀ s : S, F (.ref s.length :: ds) (s ++ [.exc C []]) = .ok .non (s ++ [.exc C fs])) : Al (fMakeX C n F fa) ρ (.exc C fs) := ⟨fun s => by
 unfold fMakeX
 rw [ha, R.bind_ok, if_pos hn, hF]; rfl⟩
noncomputable def refs : Nat -> Nat -> List D
 | _, 0 => []
 | m, k + 1 => .ref m :: refs (m + 1) k
structure Als (fa : FA) (ρ : En) (os : List O) : Prop where
 ok : ∀ s : S, fa ρ s = .ok (refs s.length os.length) (s ++ os)
theorem als_nil {ρ : En} : Als fNil ρ [] := ⟨fun s => by rw [List.append_nil]; rfl⟩
theorem als_cons {fe : FE} {fa : FA} {ρ : En} {o : O} {os : List O} (h : Al fe ρ o) (t : Als fa ρ os) : Als (fCons fe fa) ρ (o :: os) := ⟨fun s => by
 unfold fCons
 rw [h.ok, R.bind_ok, t.ok, R.bind_ok, List.append_assoc]
 simp only [List.length_append, List.length_cons, List.length_nil, List.singleton_append, Nat.zero_add]
 rfl⟩
theorem als_lst {fa : FA} {ρ : En} {os : List O} (h : Als fa ρ os) (hl : os.length < 1000) (s : S) : fLst true fa ρ s = .ok (.ref (s.length + os.length)) (s ++ os ++ [.lst (refs s.length os.length)]) := by
 have hr : ∀ m k, (refs m k).length = k := by
  intro m k
  induction k generalizing m with
  | zero => rfl
  | succ k ih => rw [refs, List.length_cons, ih]
 unfold fLst
 rw [h.ok, R.bind_ok, if_pos (by rw [hr, sizeLine_eq']; omega)]
 unfold newL
 rw [if_pos rfl, List.length_append]
section
variable {a0 a1 t w n p : D} {x6 x7 x8 x9 x10 : Option D}
abbrev rho (a0 a1 t w n p : D) (x6 x7 x8 x9 x10 : Option D) : En := [some a0, some a1, some t, some w, some n, some p, x6, x7, x8, x9, x10]
noncomputable def os6 (w n p : D) : List O := [.exc "NoNet" [("word", w), ("path", p)], .exc "NoText" [("row", n)], .exc "NoMoment" [("number", n)], .exc "TooMany" [("word", w)], .exc "NoJoin" [("word", w)], .exc "NoAlike" [("word", w), ("number", n)]]
noncomputable def os5 (w n : D) : List O := [.exc "NoLeast" [("word", w), ("number", n)], .exc "NoWish" [("word", w), ("number", n)], .exc "NoTable" [("word", w)], .exc "NoBack" [], .exc "NoRow" []]
theorem al6 : Als (fCons (fMakeX "NoNet" 3 FiNoNet (fCons (fVar 3) (fCons (fVar 5) fNil))) (fCons (fMakeX "NoText" 2 FiNoText (fCons (fVar 4) fNil)) (fCons (fMakeX "NoMoment" 2 FiNoMoment (fCons (fVar 4) fNil)) (fCons (fMakeX "TooMany" 2 FiTooMany (fCons (fVar 3) fNil)) (fCons (fMakeX "NoJoin" 2 FiNoJoin (fCons (fVar 3) fNil)) (fCons (fMakeX "NoAlike" 3 FiNoAlike (fCons (fVar 3) (fCons (fVar 4) fNil))) fNil)))))) (rho a0 a1 t w n p x6 x7 x8 x9 x10) (os6 w n p) :=
 als_cons (al_make (ds := [w, p]) (fun s => rfl) ⟨rfl, by decide⟩ fun s => two_ok rfl rfl rfl (by decide)) (als_cons (al_make (ds := [n]) (fun s => rfl) ⟨rfl, by decide⟩ fun s => one_ok rfl rfl)
  (als_cons (al_make (ds := [n]) (fun s => rfl) ⟨rfl, by decide⟩ fun s => one_ok rfl rfl) (als_cons (al_make (ds := [w]) (fun s => rfl) ⟨rfl, by decide⟩ fun s => one_ok rfl rfl) (als_cons (al_make (ds := [w]) (fun s => rfl) ⟨rfl, by decide⟩ fun s => one_ok rfl rfl)
   (als_cons (al_make (ds := [w, n]) (fun s => rfl) ⟨rfl, by decide⟩ fun s => two_ok rfl rfl rfl (by decide)) als_nil)))))
theorem al5 : Als (fCons (fMakeX "NoLeast" 3 FiNoLeast (fCons (fVar 3) (fCons (fVar 4) fNil))) (fCons (fMakeX "NoWish" 3 FiNoWish (fCons (fVar 3) (fCons (fVar 4) fNil))) (fCons (fMakeX "NoTable" 2 FiNoTable (fCons (fVar 3) fNil)) (fCons (fMakeX "NoBack" 2 FiMannerError (fCons (fVar 2) fNil)) (fCons (fMakeX "NoRow" 2 FiMannerError (fCons (fVar 2) fNil)) fNil))))) (rho a0 a1 t w n p x6 x7 x8 x9 x10) (os5 w n) :=
 als_cons (al_make (ds := [w, n]) (fun s => rfl) ⟨rfl, by decide⟩ fun s => two_ok rfl rfl rfl (by decide)) (als_cons (al_make (ds := [w, n]) (fun s => rfl) ⟨rfl, by decide⟩ fun s => two_ok rfl rfl rfl (by decide))
  (als_cons (al_make (ds := [w]) (fun s => rfl) ⟨rfl, by decide⟩ fun s => one_ok rfl rfl) (als_cons (al_make (ds := [t]) (fun s => rfl) ⟨rfl, by decide⟩ fun s => i_me get_app rfl) (als_cons (al_make (ds := [t]) (fun s => rfl) ⟨rfl, by decide⟩ fun s => i_me get_app rfl) als_nil))))
end
end Ln
namespace Ln
open PySem L2 PF
section
variable {s : S} {m : Nat} {w n p : D}
abbrev mk11 (m : Nat) : List D := [.ref m, .ref (m + 1), .ref (m + 2), .ref (m + 3), .ref (m + 4), .ref (m + 5), .ref (m + 7), .ref (m + 8), .ref (m + 9), .ref (m + 10), .ref (m + 11)]
noncomputable abbrev big (m : Nat) (w n p : D) : List O := os6 w n p ++ [.lst (refs m 6)] ++ os5 w n ++ [.lst (refs (m + 7) 5)] ++ [.lst (mk11 m)]
theorem get_ap2 {s g : S} (i : Nat) : (s ++ g)[s.length + i]? = g[i]? := by
 rw [List.getElem?_append_right (Nat.le_add_right _ _), Nat.add_sub_cancel_left]
structure Md (s : S) (m : Nat) (w n p : D) : Prop where
 ex : ∃ s0 g : S, s = s0 ++ big m w n p ++ g /\ s0.length = m
theorem Md.at (h : Md s m w n p) {i : Nat} {o : O} (e : (big m w n p)[i]? = some o) : s[m + i]? = some o := by
 obtain ⟨s0, g, rfl, rfl⟩ := h.ex
 rw [List.append_assoc, get_ap2, List.getElem?_append_left (List.getElem?_eq_some_iff.mp e).1]
 exact e
theorem Md.ext {s' : S} (h : Md s m w n p) (e : Ext s s') : Md s' m w n p := by
 obtain ⟨s0, g, rfl, hm⟩ := h.ex
 obtain ⟨g', rfl⟩ := e.ex
 exact ⟨s0, g ++ g', by rw [List.append_assoc], hm⟩
theorem Md.l (h : Md s m w n p) : s[m + 13]? = some (.lst (mk11 m)) := h.at rfl
theorem Md.nth (h : Md s m w n p) : ∀ k : Nat, k < 11 -> ∃ j C fs, (mk11 m)[k]? = some (.ref j) /\ s[j]? = some (.exc C fs) /\ xcs[k]? = some C
 | 0, _ => ⟨_, _, _, rfl, h.at (i := 0) rfl, rfl⟩
 | 1, _ => ⟨_, _, _, rfl, h.at (i := 1) rfl, rfl⟩
 | 2, _ => ⟨_, _, _, rfl, h.at (i := 2) rfl, rfl⟩
 | 3, _ => ⟨_, _, _, rfl, h.at (i := 3) rfl, rfl⟩
 | 4, _ => ⟨_, _, _, rfl, h.at (i := 4) rfl, rfl⟩
 | 5, _ => ⟨_, _, _, rfl, h.at (i := 5) rfl, rfl⟩
 | 6, _ => ⟨_, _, _, rfl, h.at (i := 7) rfl, rfl⟩
 | 7, _ => ⟨_, _, _, rfl, h.at (i := 8) rfl, rfl⟩
 | 8, _ => ⟨_, _, _, rfl, h.at (i := 9) rfl, rfl⟩
 | 9, _ => ⟨_, _, _, rfl, h.at (i := 10) rfl, rfl⟩
 | 10, _ => ⟨_, _, _, rfl, h.at (i := 11) rfl, rfl⟩
 | k + 11, hk => by omega
end
section
variable {a0 a1 t w n p : D} {x6 x7 x8 x9 x10 : Option D}
theorem made_ok {s : S} {rest : FS} : (fSeq (fSet 6 (fLst true (fCons (fMakeX "NoNet" 3 FiNoNet (fCons (fVar 3) (fCons (fVar 5) fNil))) (fCons (fMakeX "NoText" 2 FiNoText (fCons (fVar 4) fNil)) (fCons (fMakeX "NoMoment" 2 FiNoMoment (fCons (fVar 4) fNil)) (fCons (fMakeX "TooMany" 2 FiTooMany (fCons (fVar 3) fNil)) (fCons (fMakeX "NoJoin" 2 FiNoJoin (fCons (fVar 3) fNil)) (fCons (fMakeX "NoAlike" 3 FiNoAlike (fCons (fVar 3) (fCons (fVar 4) fNil))) fNil))))))))
  (fSeq (fSet 6 (fOp (gAdd true) (fVar 6) (fLst true (fCons (fMakeX "NoLeast" 3 FiNoLeast (fCons (fVar 3) (fCons (fVar 4) fNil))) (fCons (fMakeX "NoWish" 3 FiNoWish (fCons (fVar 3) (fCons (fVar 4) fNil))) (fCons (fMakeX "NoTable" 2 FiNoTable (fCons (fVar 3) fNil)) (fCons (fMakeX "NoBack" 2 FiMannerError (fCons (fVar 2) fNil)) (fCons (fMakeX "NoRow" 2 FiMannerError (fCons (fVar 2) fNil)) fNil)))))))) rest)) (rho a0 a1 t w n p x6 x7 x8 x9 x10) s
  = rest (rho a0 a1 t w n p (some (.ref (s.length + 13))) x7 x8 x9 x10) (s ++ big s.length w n p) := by
 have e1 := als_lst (al6 (a0 := a0) (a1 := a1) (t := t) (w := w) (n := n) (p := p) (x6 := x6) (x7 := x7) (x8 := x8) (x9 := x9) (x10 := x10)) (show 6 < 1000 by decide) s
 rw [seq_nx (ρ' := rho a0 a1 t w n p (some (.ref (s.length + 6))) x7 x8 x9 x10) (s1 := s ++ os6 w n p ++ [.lst (refs s.length 6)]) (by unfold fSet; rw [e1]; rfl)]
 have e2 := als_lst (al5 (a0 := a0) (a1 := a1) (t := t) (w := w) (n := n) (p := p) (x6 := some (.ref (s.length + 6))) (x7 := x7) (x8 := x8) (x9 := x9) (x10 := x10)) (show 5 < 1000 by decide) (s ++ os6 w n p ++ [.lst (refs s.length 6)])
 have hl : (s ++ os6 w n p ++ [O.lst (refs s.length 6)]).length = s.length + 7 := by simp [os6]
 rw [hl] at e2
 rw [show (os5 w n).length = 5 from rfl] at e2
 refine seq_nx ?_
 unfold fSet
 have e3 : fOp (gAdd true) (fVar 6) (fLst true (fCons (fMakeX "NoLeast" 3 FiNoLeast (fCons (fVar 3) (fCons (fVar 4) fNil))) (fCons (fMakeX "NoWish" 3 FiNoWish (fCons (fVar 3) (fCons (fVar 4) fNil))) (fCons (fMakeX "NoTable" 2 FiNoTable (fCons (fVar 3) fNil)) (fCons (fMakeX "NoBack" 2 FiMannerError (fCons (fVar 2) fNil)) (fCons (fMakeX "NoRow" 2 FiMannerError (fCons (fVar 2) fNil)) fNil)))))) (rho a0 a1 t w n p (some (.ref (s.length + 6))) x7 x8 x9 x10) (s ++ os6 w n p ++ [.lst (refs s.length 6)]) = .ok (.ref (s.length + 13)) (s ++ big s.length w n p) := by
  show (R.bind (fLst true _ _ _) fun y s2 => gAdd true (.ref (s.length + 6)) y s2) = _
  rw [e2, R.bind_ok]
  have g1 : (s ++ os6 w n p ++ [O.lst (refs s.length 6)] ++ os5 w n ++ [O.lst (refs (s.length + 7) 5)])[s.length + 6]? = some (.lst (refs s.length 6)) := by
   simp only [List.append_assoc]
   rw [get_ap2]; rfl
  have g2 : (s ++ os6 w n p ++ [O.lst (refs s.length 6)] ++ os5 w n ++ [O.lst (refs (s.length + 7) 5)])[s.length + 12]? = some (.lst (refs (s.length + 7) 5)) := by
   simp only [List.append_assoc]
   rw [get_ap2]; rfl
  have h1 : toL (s ++ os6 w n p ++ [O.lst (refs s.length 6)] ++ os5 w n ++ [O.lst (refs (s.length + 7) 5)]) (.ref (s.length + 6)) = some (refs s.length 6) := by
   show (match (s ++ os6 w n p ++ [O.lst (refs s.length 6)] ++ os5 w n ++ [O.lst (refs (s.length + 7) 5)])[s.length + 6]? with | some (O.lst ds) => some ds | _ => none) = _
   rw [g1]
  have h2 : toL (s ++ os6 w n p ++ [O.lst (refs s.length 6)] ++ os5 w n ++ [O.lst (refs (s.length + 7) 5)]) (.ref (s.length + 12)) = some (refs (s.length + 7) 5) := by
   show (match (s ++ os6 w n p ++ [O.lst (refs s.length 6)] ++ os5 w n ++ [O.lst (refs (s.length + 7) 5)])[s.length + 12]? with | some (O.lst ds) => some ds | _ => none) = _
   rw [g2]
  show (match toL _ (.ref (s.length + 6)), toL _ (.ref (s.length + 12)) with | some xs, some ys => (if xs.length + ys.length <= sizeLine then newL true (xs ++ ys) _ else .bad) | _, _ => .bad) = _
  rw [h1, h2]
  show (if 6 + 5 <= sizeLine then newL true (refs s.length 6 ++ refs (s.length + 7) 5) _ else .bad) = _
  rw [if_pos (by rw [sizeLine_eq']; decide)]
  unfold newL
  rw [if_pos rfl]
  have hl2 : (s ++ os6 w n p ++ [O.lst (refs s.length 6)] ++ os5 w n ++ [O.lst (refs (s.length + 7) 5)]).length = s.length + 13 := by simp [os6, os5]
  rw [hl2]
  have hb : s ++ os6 w n p ++ [O.lst (refs s.length 6)] ++ os5 w n ++ [O.lst (refs (s.length + 7) 5)] ++ [O.lst (refs s.length 6 ++ refs (s.length + 7) 5)] = s ++ big s.length w n p := by
   simp only [List.append_assoc]
   rfl
  rw [hb]
 rw [e3]; rfl
end
theorem isx_fn {s : S} {n : Nat} {C y : Str} {fs : List (Str × D)} (h : s[n]? = some (.exc C fs)) (hc : isC C) (hy : isC y) : gIsx xb xcs [.ref n, .fn y] s = .ok (.bl (y == C || y == xb)) s := by
 show (match s[n]? with | some (O.exc C fs) => (if (xb :: xcs).contains C = true /\ (xb :: xcs).contains y = true then R.ok (D.bl (y == C || y == xb)) s else .bad) | _ => .bad) = _
 rw [h]
 exact if_pos ⟨hc, hy⟩
theorem isx_ty {s : S} {n : Nat} {C : Str} {fs : List (Str × D)} (h : s[n]? = some (.exc C fs)) (hc : isC C) : gIsx xb xcs [.ref n, .ty "ValueError"] s = .ok (.bl true) s := by
 show (match s[n]? with | some (O.exc C fs) => (if (xb :: xcs).contains C = true /\ "ValueError" = "ValueError" then R.ok (D.bl true) s else .bad) | _ => .bad) = _
 rw [h]
 exact if_pos ⟨hc, rfl⟩
noncomputable def kindsB (C : Str) : List Bool := xcs.map fun y => y == C || y == xb
theorem is_at {s : S} {n : Nat} {C y : Str} {fs : List (Str × D)} {x : Option D} (h : s[n]? = some (.exc C fs)) (hc : isC C) (hy : isC y) : fCB (gIsx xb xcs) (fCons (fVar 0) (fCons (fC (.fn y)) fNil)) [some (.ref n), x] s = .ok (.bl (y == C || y == xb)) s := by
 show gIsx xb xcs [.ref n, .fn y] s = _
 exact isx_fn h hc hy
theorem fa_cons {fe : FE} {fa : FA} {ρ : En} {s : S} {d : D} {ds : List D} (h : fe ρ s = .ok d s) (t : fa ρ s = .ok ds s) : fCons fe fa ρ s = .ok (d :: ds) s := by
 unfold fCons; rw [h, R.bind_ok, t, R.bind_ok]
theorem fa_nil {ρ : En} {s : S} : fNil ρ s = .ok [] s := rfl
theorem lst_da {fa : FA} {ρ : En} {s : S} (xs : List PyData) (h : fa ρ s = .ok (xs.map D.da) s) (hl : xs.length <= 1000) : fLst false fa ρ s = .ok (.lst xs) s := by
 unfold fLst
 rw [h, R.bind_ok, List.length_map, if_pos (by rw [sizeLine_eq']; omega)]
 unfold newL
 rw [if_neg (by decide), pures_da]
theorem set_at {i : Nat} {fe : FE} {ρ : En} {s s1 : S} {d : D} (h : fe ρ s = .ok d s1) : fSet i fe ρ s = .ok (.nx (ρ.set i (some d))) s1 := by
 unfold fSet; rw [h]; rfl
theorem op_at {g : D -> D -> S -> R D} {fa fb : FE} {ρ : En} {s s1 s2 : S} {x y : D} (h1 : fa ρ s = .ok x s1) (h2 : fb ρ s1 = .ok y s2) : fOp g fa fb ρ s = g x y s2 := by
 unfold fOp; rw [h1, R.bind_ok, h2, R.bind_ok]
theorem add_l {xs ys : List PyData} {s : S} (h : xs.length + ys.length <= 1000) : gAdd false (.lst xs) (.lst ys) s = .ok (.lst (xs ++ ys)) s := by
 show (if (xs.map D.da).length + (ys.map D.da).length <= sizeLine then newL false (xs.map D.da ++ ys.map D.da) s else .bad) = _
 rw [if_pos (by rw [List.length_map, List.length_map, sizeLine_eq']; omega), ← List.map_append]
 unfold newL
 rw [if_neg (by decide), pures_da]
theorem kinds_ok {s : S} {n : Nat} {C : Str} {fs : List (Str × D)} (h : s[n]? = some (.exc C fs)) (hc : isC C) : F_law_kinds [.ref n] s = .ok (.lst ((kindsB C).map PyData.bool)) s := by
 rw [e_law_kinds]; unfold B_law_kinds
 have k : ∀ y, isC y -> ∀ x : Option D, fCB (gIsx xb xcs) (fCons (fVar 0) (fCons (fC (.fn y)) fNil)) [some (.ref n), x] s = .ok (.da (.bool (y == C || y == xb))) s := fun y hy x => is_at h hc hy
 have e1 := fun x => lst_da [.bool ("NoNet" == C || "NoNet" == xb), .bool ("NoText" == C || "NoText" == xb), .bool ("NoMoment" == C || "NoMoment" == xb), .bool ("TooMany" == C || "TooMany" == xb)] (fa_cons (k "NoNet" rfl x) (fa_cons (k "NoText" rfl x) (fa_cons (k "NoMoment" rfl x) (fa_cons (k "TooMany" rfl x) fa_nil)))) (by simp)
 have e2 := fun x => lst_da [.bool ("NoJoin" == C || "NoJoin" == xb), .bool ("NoAlike" == C || "NoAlike" == xb), .bool ("NoLeast" == C || "NoLeast" == xb), .bool ("NoWish" == C || "NoWish" == xb)] (fa_cons (k "NoJoin" rfl x) (fa_cons (k "NoAlike" rfl x) (fa_cons (k "NoLeast" rfl x) (fa_cons (k "NoWish" rfl x) fa_nil)))) (by simp)
 have e3 := fun x => lst_da [.bool ("NoTable" == C || "NoTable" == xb), .bool ("NoBack" == C || "NoBack" == xb), .bool ("NoRow" == C || "NoRow" == xb)] (fa_cons (k "NoTable" rfl x) (fa_cons (k "NoBack" rfl x) (fa_cons (k "NoRow" rfl x) fa_nil))) (by simp)
 rw [seq_nx (set_at (e1 none))]
 dsimp only [List.set_cons_succ, List.set_cons_zero]
 rw [seq_nx (set_at ((op_at rfl (e2 _)).trans (add_l (by simp))))]
 dsimp only [List.set_cons_succ, List.set_cons_zero]
 unfold fRet
 rw [(op_at rfl (e3 _)).trans (add_l (by simp))]
 rfl
end Ln
namespace Ln
open PySem L2 PF
theorem ifS_F {ft : FT} {a b : FS} {ρ : En} {s s1 : S} (h : ft ρ s = .ok false s1) : fIfS ft a b ρ s = b ρ s1 := by
 unfold fIfS; rw [h]; rfl
theorem or_FF {f g : FT} {ρ : En} {s s1 s2 : S} (h1 : f ρ s = .ok false s1) (h2 : g ρ s1 = .ok false s2) : fOrT f g ρ s = .ok false s2 := by
 unfold fOrT; rw [h1, R.bind_ok, if_neg (by decide), h2]
theorem not_tru {f : FE} {ρ : En} {s : S} (h : f ρ s = .ok (.bl true) s) : fNotT (fTru f) ρ s = .ok false s := by
 unfold fNotT fTru; rw [h]; rfl
theorem test_F {f : FE} {ρ : En} {s s1 : S} (h : f ρ s = .ok (.bl false) s1) : fTest f ρ s = .ok false s1 := by
 unfold fTest; rw [h]; rfl
theorem eqv_int (i j : Int) : PyData.eqv (.int i) (.int j) = decide (i = j) := by
 simp only [PyData.eqv]; rfl
theorem comp_const {g : Tg} {fe : FE} {ρ0 : En} {q : Wk} {s : S} (f : D -> D) (hs : SrcOk q s) : ∀ l : List D, (∀ d ∈ l, ∃ ρ1, setD g d ρ0 = some ρ1 /\ fe ρ1 s = .ok (f d) s) -> compF g fYes fe ρ0 q l s = .ok (l.map f) s
 | [], _ => rfl
 | d :: r, h => by
  obtain ⟨ρ1, e1, e2⟩ := h d List.mem_cons_self
  have ih := comp_const f hs r fun x hx => h x (List.mem_cons_of_mem _ hx)
  rw [compF, e1]
  show (if true = true then (fe ρ1 s).bind (fun x s3 => chk q s3 ((compF g fYes fe ρ0 q r s3).bind fun xs s4 => .ok (x :: xs) s4)) else chk q s (compF g fYes fe ρ0 q r s)) = _
  rw [if_pos rfl, e2, R.bind_ok, chk_pos hs, ih, R.bind_ok]
  rfl
theorem kinds_fact : ∀ k : Fin 11, okD (.list ((kindsB (xcs.getD k "")).map .bool)) = true /\ okD (.list ((List.range 11).map fun j : Nat => .bool (decide ((j : Int) = (k.val : Int))))) = true /\ PyData.eqv (.list ((kindsB (xcs.getD k "")).map .bool)) (.list ((List.range 11).map fun j : Nat => .bool (decide ((j : Int) = (k.val : Int))))) = true := by decide +kernel
theorem rng11 : rngD 0 11 = (List.range 11).map fun j : Nat => D.int (j : Int) := rfl
section
variable {a0 a1 t : D} {w n p : D} {x7 x8 x9 x10 : Option D} {s : S} {m : Nat}
theorem lc_eq {k : Nat} : fLc false [7] 1 (fRng (fCons (fC (.da (.int 11))) fNil)) (.nm 0) fYes (fOp gEq (fVar 0) (fVar 1)) (rho a0 a1 t w n p (some (.ref (m + 13))) (some (.int (k : Int))) x8 x9 x10) s = .ok (.lst ((List.range 11).map fun j : Nat => .bool (decide ((j : Int) = (k : Int))))) s := by
 unfold fLc
 have e1 : fRng (fCons (fC (.da (.int 11))) fNil) (rho a0 a1 t w n p (some (.ref (m + 13))) (some (.int (k : Int))) x8 x9 x10) s = .ok (rngD 0 11, none) s := by
  show gRng [.int 11] s = _
  exact rng_ok (by decide) (by decide)
 rw [e1, R.bind_ok, if_pos (by rw [rng_len, sizeLine_eq']; decide), chk_none]
 have e2 := comp_const (g := .nm 0) (fe := fOp gEq (fVar 0) (fVar 1)) (ρ0 := [none, some (.int (k : Int))]) (q := (rngD 0 11, none)) (s := s) (fun d => match d with | .da (.int j) => .bl (decide (j = (k : Int))) | d => d) trivial (rngD 0 11) (fun d hd => by
  rw [rng11] at hd
  obtain ⟨j, _, rfl⟩ := List.mem_map.mp hd
  refine ⟨[some (.int (j : Int)), some (.int (k : Int))], rfl, ?_⟩
  show gEq (.int (j : Int)) (.int (k : Int)) s = _
  rw [gEq_da rfl rfl, eqv_int])
 have e3 : (List.replicate 1 none ++ capD (rho a0 a1 t w n p (some (.ref (m + 13))) (some (.int (k : Int))) x8 x9 x10) [7]) = [none, some (.int (k : Int))] := rfl
 rw [e3, e2, R.bind_ok, rng11, List.map_map]
 show newL false _ s = _
 unfold newL
 rw [if_neg (by decide), show (List.map ((fun d => match d with | D.da (PyData.int j) => D.bl (decide (j = (k : Int))) | d => d) ∘ fun j : Nat => D.int (j : Int)) (List.range 11)) = ((List.range 11).map fun j : Nat => PyData.bool (decide ((j : Int) = (k : Int)))).map D.da by rw [List.map_map]; rfl, pures_da]
theorem is8 {y : Str} {j : Nat} {C : Str} {fs : List (Str × D)} (h : s[j]? = some (.exc C fs)) (hc : isC C) : fCB (gIsx xb xcs) (fCons (fVar 8) (fCons (fC (.fn "MannerError")) fNil)) (rho a0 a1 t w n p (some (.ref (m + 13))) x7 (some (.ref j)) x9 x10) s = .ok (.bl true) s := by
 show gIsx xb xcs [.ref j, .fn "MannerError"] s = _
 rw [isx_fn h hc rfl]
 have : (("MannerError" : Str) == C || ("MannerError" : Str) == xb) = true := by rw [show (("MannerError" : Str) == xb) = true from rfl, Bool.or_true]
 rw [this]
noncomputable abbrev LB : FS := (fSeq (fSet 8 (fOp gIx (fVar 6) (fVar 7)))
  (fSeq (fIfS (fOrT (fNotT (fTru (fCB (gIsx xb xcs) (fCons (fVar 8) (fCons (fC (.fn "MannerError")) fNil))))) (fNotT (fTru (fCB (gIsx xb xcs) (fCons (fVar 8) (fCons (fC (.ty "ValueError")) fNil)))))) (fRet (fC (.da (.bool false)))) fNext)
  (fIfS (fTest (fOp gNe (fCall 1 F_law_kinds (fCons (fVar 8) fNil)) (fLc false [7] 1 (fRng (fCons (fC (.da (.int 11))) fNil)) (.nm 0) fYes (fOp gEq (fVar 0) (fVar 1))))) (fRet (fC (.da (.bool false)))) fNext)))
theorem body_ok (h : Md s m w n p) {k : Nat} (hk : k < 11) : ∃ y8, LB (rho a0 a1 t w n p (some (.ref (m + 13))) (some (.int (k : Int))) x8 x9 x10) s = .ok (.nx (rho a0 a1 t w n p (some (.ref (m + 13))) (some (.int (k : Int))) y8 x9 x10)) s := by
 obtain ⟨j, C, fs, e1, e2, e3⟩ := h.nth k hk
 have hx : xcs.getD k "" = C := by rw [List.getD_eq_getElem?_getD, e3]; rfl
 have hc : isC C := List.contains_iff_mem.mpr (List.mem_cons_of_mem _ (List.mem_of_getElem? e3))
 refine ⟨some (.ref j), ?_⟩
 have f1 : fOp gIx (fVar 6) (fVar 7) (rho a0 a1 t w n p (some (.ref (m + 13))) (some (.int (k : Int))) x8 x9 x10) s = .ok (.ref j) s := gIx_ref h.l e1
 unfold LB
 rw [seq_nx (set_at f1)]
 show (fSeq _ _) (rho a0 a1 t w n p (some (.ref (m + 13))) (some (.int (k : Int))) (some (.ref j)) x9 x10) s = _
 rw [seq_nx (ρ' := rho a0 a1 t w n p (some (.ref (m + 13))) (some (.int (k : Int))) (some (.ref j)) x9 x10) (s1 := s) (ifS_F (or_FF (not_tru (is8 (y := xb) e2 hc)) (not_tru (isx_ty e2 hc))))]
 have f2 : fCall 1 F_law_kinds (fCons (fVar 8) fNil) (rho a0 a1 t w n p (some (.ref (m + 13))) (some (.int (k : Int))) (some (.ref j)) x9 x10) s = .ok (.lst ((kindsB C).map PyData.bool)) s := kinds_ok e2 hc
 obtain ⟨g1, g2, g3⟩ := kinds_fact ⟨k, hk⟩
 rw [hx] at g1 g3
 refine ifS_F (test_F ((op_at f2 lc_eq).trans ?_))
 rw [gNe_da g1 g2, g3]; rfl
theorem loop_okA (h : Md s m w n p) {all : List D} : ∀ (ks : List Nat), (∀ k ∈ ks, k < 11) -> ∀ x7 x8 : Option D, ∃ y7 y8, loopF (.nm 7) LB (all, none) (ks.map fun k : Nat => D.int (k : Int)) (rho a0 a1 t w n p (some (.ref (m + 13))) x7 x8 x9 x10) s = .ok (.nx (rho a0 a1 t w n p (some (.ref (m + 13))) y7 y8 x9 x10)) s
 | [], _, x7, x8 => ⟨x7, x8, rfl⟩
 | k :: r, hk, x7, x8 => by
  obtain ⟨y8, e⟩ := body_ok (a0 := a0) (a1 := a1) (t := t) (x8 := x8) (x9 := x9) (x10 := x10) h (hk k List.mem_cons_self)
  obtain ⟨z7, z8, e2⟩ := loop_okA h (all := all) r (fun x hx => hk x (List.mem_cons_of_mem _ hx)) (some (.int (k : Int))) y8
  refine ⟨z7, z8, ?_⟩
  rw [List.map_cons, loop_cons (ρ1 := rho a0 a1 t w n p (some (.ref (m + 13))) (some (.int (k : Int))) x8 x9 x10) rfl, e, R.bind_ok, loop_nx]
  exact e2
theorem for_ok (h : Md s m w n p) : ∃ y7 y8, fFor (fRng (fCons (fCB gLen (fCons (fVar 6) fNil)) fNil)) (.nm 7) LB (rho a0 a1 t w n p (some (.ref (m + 13))) x7 x8 x9 x10) s = .ok (.nx (rho a0 a1 t w n p (some (.ref (m + 13))) y7 y8 x9 x10)) s := by
 obtain ⟨y7, y8, e⟩ := loop_okA (a0 := a0) (a1 := a1) (t := t) (x9 := x9) (x10 := x10) h (all := rngD 0 11) (List.range 11) (fun k hk => List.mem_range.mp hk) x7 x8
 refine ⟨y7, y8, ?_⟩
 have g : gLen [.ref (m + 13)] s = .ok (.int 11) s := by
  show (match (match s[m + 13]? with | some (O.lst ds) => some ds | _ => none) with | some xs => R.ok (D.int xs.length) s | none => .bad) = _
  rw [h.l]; rfl
 have e1 : fRng (fCons (fCB gLen (fCons (fVar 6) fNil)) fNil) (rho a0 a1 t w n p (some (.ref (m + 13))) x7 x8 x9 x10) s = .ok (rngD 0 11, none) s := by
  unfold fRng
  rw [fa_cons (d := .int 11) (ds := []) (show gLen [.ref (m + 13)] s = _ from g) fa_nil, R.bind_ok]
  exact rng_ok (by decide) (by decide)
 unfold fFor
 rw [e1, R.bind_ok, chk_none, rng11]
 rw [rng11] at e
 exact e
end
end Ln
namespace Ln
open PySem L2 PF
theorem fldX_ok {s : S} {j : Nat} {C f : Str} {fs : List (Str × D)} {d : D} (h : s[j]? = some (.exc C fs)) (hc : isC C) (hf : xfl.contains f = true) (hl : fs.lookup f = some d) : gFldX xb xcs xfl f (.ref j) s = .ok d s := by
 show (match s[j]? with | some (O.exc C fs) => (if (xb :: xcs).contains C = true /\ xfl.contains f = true then (match fs.lookup f with | some x => R.ok x s | none => .bad) else .bad) | _ => .bad) = _
 rw [h]
 show (if (xb :: xcs).contains C = true /\ xfl.contains f = true then (match fs.lookup f with | some x => R.ok x s | none => .bad) else .bad) = _
 rw [if_pos ⟨hc, hf⟩, hl]
theorem newL_da {xs : List PyData} {s : S} : newL false (xs.map D.da) s = .ok (.lst xs) s := by
 unfold newL; rw [if_neg (by decide), pures_da]
theorem map_rep {α β : Type} (l : List α) (d : β) : l.map (fun _ => d) = List.replicate l.length d := by
 induction l with
 | nil => rfl
 | cons a r ih => rw [List.map_cons, ih]; rfl
theorem lcS {s : S} {ρ : En} {L : List D} {f : Str} {d : PyData} {fe : FE} (hs : fe ρ s = .ok (.ref s.length) (s ++ [O.lst L])) (hL : ∀ x ∈ L, ∃ j C fs, x = .ref j /\ s[j]? = some (.exc C fs) /\ isC C /\ fs.lookup f = some (.da d)) (hf : xfl.contains f = true) (hl : L.length <= 100) :
  fLc false [] 1 (fIt fe) (.nm 0) fYes (fFldX xb xcs xfl f (fVar 0)) ρ s = .ok (.lst (List.replicate L.length d)) (s ++ [O.lst L]) := by
 have g : (s ++ [O.lst L])[s.length]? = some (.lst L) := get_app
 unfold fLc
 have e1 : fIt fe ρ s = .ok (L, some s.length) (s ++ [O.lst L]) := by
  unfold fIt
  rw [hs, R.bind_ok]
  show (match (s ++ [O.lst L])[s.length]? with | some (O.lst ds) => R.ok ((ds, some s.length) : Wk) (s ++ [O.lst L]) | _ => .bad) = _
  rw [g]
 have so : SrcOk (L, some s.length) (s ++ [O.lst L]) := g
 rw [e1, R.bind_ok, if_pos (by rw [sizeLine_eq']; exact Nat.le_trans hl (by decide)), chk_pos so]
 rw [show (List.replicate 1 none ++ capD ρ []) = [none] from rfl]
 rw [comp_const (fun _ => .da d) so L fun x hx => ?_, R.bind_ok, map_rep, show List.replicate L.length (D.da d) = (List.replicate L.length d).map D.da by rw [List.map_replicate], newL_da]
 obtain ⟨j, C, fs, rfl, h1, h2, h3⟩ := hL x hx
 refine ⟨[some (.ref j)], rfl, ?_⟩
 show gFldX xb xcs xfl f (.ref j) (s ++ [O.lst L]) = _
 exact fldX_ok ((Ext.add s [O.lst L]).get h1) h2 hf h3
theorem mul_l {d : PyData} {s : S} {k : Nat} (hk : k < 100) : gMulL false (.lst [d]) (.int (k : Int)) s = .ok (.lst (List.replicate k d)) s := by
 show (if -1000 < (k : Int) /\ (k : Int) < 1000 /\ [D.da d].length < 1000 then newL false (List.replicate (k : Int).toNat [D.da d]).flatten s else gMulT (.lst [d]) (.int (k : Int)) s) = _
 have : ∀ j : Nat, (List.replicate j [D.da d]).flatten = (List.replicate j d).map D.da := by
  intro j
  induction j with
  | zero => rfl
  | succ j ih => rw [List.replicate_succ, List.flatten_cons, ih]; rfl
 rw [if_pos ⟨by omega, by omega, by simp⟩, Int.toNat_natCast, this, newL_da]
theorem repr_l {d : PyData} {s : S} (h : okE d = true) : gReprE [.da d] s = .ok (.str d.shown) s := by
 show (if PF.okE d = true then R.ok (D.str d.shown) s else .bad) = _
 rw [if_pos h]
section
variable {a0 a1 t : D} {wd nd pd : PyData} {x7 x8 x9 x10 : Option D} {s : S} {m : Nat}
theorem slS {a b : Nat} {L : List D} {n p w : D} (h : Md s m w n p) (hL : cutL (mk11 m) (some (a : Int)) (some (b : Int)) = L) : fSl true (fVar 6) (fSome (fC (.da (.int (a : Int))))) (fSome (fC (.da (.int (b : Int))))) (rho a0 a1 t w n p (some (.ref (m + 13))) x7 x8 x9 x10) s = .ok (.ref s.length) (s ++ [O.lst L]) := by
 show gSl true (.ref (m + 13)) (some (a : Int)) (some (b : Int)) s = _
 show (match (match s[m + 13]? with | some (O.lst ds) => some ds | _ => none) with | some ds => newL true (cutL ds (some (a : Int)) (some (b : Int))) s | none => .bad) = _
 rw [h.l]
 show newL true (cutL (mk11 m) (some (a : Int)) (some (b : Int))) s = _
 rw [hL]
 rfl
noncomputable abbrev ER : FS := (fSeq (fSet 9 (fOp (gAdd false) (fLst false (fCons (fFldX xb xcs xfl "word" (fOp gIx (fVar 6) (fC (.da (.int 0))))) (fCons (fFldX xb xcs xfl "path" (fOp gIx (fVar 6) (fC (.da (.int 0))))) (fCons (fFldX xb xcs xfl "row" (fOp gIx (fVar 6) (fC (.da (.int 1))))) (fCons (fFldX xb xcs xfl "number" (fOp gIx (fVar 6) (fC (.da (.int 2))))) fNil))))) (fLc false [] 1 (fIt (fSl true (fVar 6) (fSome (fC (.da (.int 5)))) (fSome (fC (.da (.int 8)))))) (.nm 0) fYes (fFldX xb xcs xfl "number" (fVar 0)))))
  (fSeq (fIfS (fOrT (fTest (fOp gNe (fCB gReprE (fCons (fVar 9) fNil)) (fCB gReprE (fCons (fOp (gAdd false) (fLst false (fCons (fVar 3) (fCons (fVar 5) fNil))) (fOp (gMulL false) (fLst false (fCons (fVar 4) fNil)) (fC (.da (.int 5))))) fNil)))) (fTest (fOp gNe (fCB gReprE (fCons (fLc false [] 1 (fIt (fSl true (fVar 6) (fSome (fC (.da (.int 3)))) (fSome (fC (.da (.int 9)))))) (.nm 0) fYes (fFldX xb xcs xfl "word" (fVar 0))) fNil)) (fCB gReprE (fCons (fOp (gMulL false) (fLst false (fCons (fVar 3) fNil)) (fC (.da (.int 6)))) fNil))))) (fRet (fC (.da (.bool false)))) fNext)
  (fSeq (fSet 10 (fMakeX "MannerError" 2 FiMannerError (fCons (fC (.da (.str "a text"))) fNil)))
  (fRet (fAnd (fCB (gIsx xb xcs) (fCons (fVar 10) (fCons (fC (.ty "ValueError")) fNil))) (fOp gNotIn (fC (.da (.bool true))) (fCall 1 F_law_kinds (fCons (fVar 10) fNil))))))))
theorem cb_at {g : FF} {fa : FE} {ρ : En} {s s1 : S} {x : D} (h : fa ρ s = .ok x s1) : fCB g (fCons fa fNil) ρ s = g [x] s1 := by
 unfold fCB fCons; rw [h]; rfl
theorem fld_ix {n p w d : D} {k i : Nat} {f C : Str} {fs : List (Str × D)} {ρ : En} (h : Md s m w n p) (hv : (fOp gIx (fVar 6) (fC (.da (.int (k : Int))))) ρ s = gIx (.ref (m + 13)) (.int (k : Int)) s) (h1 : (mk11 m)[k]? = some (.ref (m + i))) (h2 : (big m w n p)[i]? = some (.exc C fs)) (hc : isC C) (hf : xfl.contains f = true) (hl : fs.lookup f = some d) : fFldX xb xcs xfl f (fOp gIx (fVar 6) (fC (.da (.int (k : Int))))) ρ s = .ok d s := by
 unfold fFldX
 rw [hv, gIx_ref h.l h1, R.bind_ok]
 exact fldX_ok (h.at h2) hc hf hl
theorem neS {x : Str} {s : S} : gNe (.str x) (.str x) s = .ok (.bl false) s := by
 show R.ok (D.bl (!decide (x = x))) s = _
 rw [decide_eq_true rfl]; rfl
theorem kinds_base : okD (.bool true) = true /\ ((kindsB xb).map PyData.bool).all okD = true /\ (((kindsB xb).map PyData.bool).any fun d => PyData.eqv d (.bool true)) = false := by decide +kernel
theorem end_ok (h : Md s m (.da wd) (.da nd) (.da pd)) (h1 : okE (.list ([wd, pd] ++ List.replicate 5 nd)) = true) (h2 : okE (.list (List.replicate 6 wd)) = true) :
  ∃ s', ER (rho a0 a1 t (.da wd) (.da nd) (.da pd) (some (.ref (m + 13))) x7 x8 x9 x10) s = .ok (.rt (.bl true)) s' := by
 unfold ER
 have c1 : cutL (mk11 m) (some ((5 : Nat) : Int)) (some ((8 : Nat) : Int)) = [.ref (m + 5), .ref (m + 7), .ref (m + 8)] := rfl
 have c2 : cutL (mk11 m) (some ((3 : Nat) : Int)) (some ((9 : Nat) : Int)) = [.ref (m + 3), .ref (m + 4), .ref (m + 5), .ref (m + 7), .ref (m + 8), .ref (m + 9)] := rfl
 have t1 := lst_da [wd, pd, nd, nd] (fa_cons (fld_ix (k := 0) (i := 0) (f := "word") (ρ := rho a0 a1 t (.da wd) (.da nd) (.da pd) (some (.ref (m + 13))) x7 x8 x9 x10) h rfl rfl rfl rfl rfl rfl) (fa_cons (fld_ix (k := 0) (i := 0) (f := "path") h rfl rfl rfl rfl rfl rfl) (fa_cons (fld_ix (k := 1) (i := 1) (f := "row") h rfl rfl rfl rfl rfl rfl) (fa_cons (fld_ix (k := 2) (i := 2) (f := "number") h rfl rfl rfl rfl rfl rfl) fa_nil)))) (by simp)
 have t2 := lcS (f := "number") (d := nd) (slS (a0 := a0) (a1 := a1) (t := t) (x7 := x7) (x8 := x8) (x9 := x9) (x10 := x10) h c1) (fun x hx => by
  (rcases List.mem_cons.mp hx with rfl | hx)
  ·exact ⟨_, _, _, rfl, h.at (i := 5) rfl, rfl, rfl⟩
  (rcases List.mem_cons.mp hx with rfl | hx)
  ·exact ⟨_, _, _, rfl, h.at (i := 7) rfl, rfl, rfl⟩
  (rcases List.mem_cons.mp hx with rfl | hx)
  ·exact ⟨_, _, _, rfl, h.at (i := 8) rfl, rfl, rfl⟩
  ·cases hx) rfl (by simp)
 have t3 := set_at (i := 9) ((op_at t1 t2).trans (add_l (by simp)))
 refine ⟨s ++ [O.lst [.ref (m + 5), .ref (m + 7), .ref (m + 8)]] ++ [O.lst [.ref (m + 3), .ref (m + 4), .ref (m + 5), .ref (m + 7), .ref (m + 8), .ref (m + 9)]] ++ [.exc "MannerError" []], (seq_nx t3).trans ?_⟩
 have hM := h.ext (Ext.add s [O.lst [.ref (m + 5), .ref (m + 7), .ref (m + 8)]])
 generalize s ++ [O.lst [.ref (m + 5), .ref (m + 7), .ref (m + 8)]] = s1 at hM ⊢
 clear t1 t2 t3 h c1
 show (fSeq _ _) (rho a0 a1 t (.da wd) (.da nd) (.da pd) (some (.ref (m + 13))) x7 x8 (some (.lst ([wd, pd] ++ List.replicate 5 nd))) x10) s1 = _
 have r1 : fCB gReprE (fCons (fVar 9) fNil) (rho a0 a1 t (.da wd) (.da nd) (.da pd) (some (.ref (m + 13))) x7 x8 (some (.lst ([wd, pd] ++ List.replicate 5 nd))) x10) s1 = .ok (.str (PyData.list ([wd, pd] ++ List.replicate 5 nd)).shown) s1 := repr_l h1
 have r2 : fCB gReprE (fCons (fOp (gAdd false) (fLst false (fCons (fVar 3) (fCons (fVar 5) fNil))) (fOp (gMulL false) (fLst false (fCons (fVar 4) fNil)) (fC (.da (.int 5))))) fNil) (rho a0 a1 t (.da wd) (.da nd) (.da pd) (some (.ref (m + 13))) x7 x8 (some (.lst ([wd, pd] ++ List.replicate 5 nd))) x10) s1 = .ok (.str (PyData.list ([wd, pd] ++ List.replicate 5 nd)).shown) s1 := by
  have q1 : fLst false (fCons (fVar 3) (fCons (fVar 5) fNil)) (rho a0 a1 t (.da wd) (.da nd) (.da pd) (some (.ref (m + 13))) x7 x8 (some (.lst ([wd, pd] ++ List.replicate 5 nd))) x10) s1 = .ok (.lst [wd, pd]) s1 := lst_da [wd, pd] rfl (by simp)
  have q2 : fLst false (fCons (fVar 4) fNil) (rho a0 a1 t (.da wd) (.da nd) (.da pd) (some (.ref (m + 13))) x7 x8 (some (.lst ([wd, pd] ++ List.replicate 5 nd))) x10) s1 = .ok (.lst [nd]) s1 := lst_da [nd] rfl (by simp)
  exact (cb_at ((op_at q1 ((op_at q2 rfl).trans (mul_l (k := 5) (by decide)))).trans (add_l (by simp)))).trans (repr_l h1)
 have r3 : fLc false [] 1 (fIt (fSl true (fVar 6) (fSome (fC (.da (.int 3)))) (fSome (fC (.da (.int 9)))))) (.nm 0) fYes (fFldX xb xcs xfl "word" (fVar 0)) (rho a0 a1 t (.da wd) (.da nd) (.da pd) (some (.ref (m + 13))) x7 x8 (some (.lst ([wd, pd] ++ List.replicate 5 nd))) x10) s1 = .ok (.lst (List.replicate 6 wd)) (s1 ++ [O.lst [.ref (m + 3), .ref (m + 4), .ref (m + 5), .ref (m + 7), .ref (m + 8), .ref (m + 9)]]) :=
  lcS (f := "word") (d := wd) (slS (a := 3) (b := 9) hM c2) (fun x hx => by
   (rcases List.mem_cons.mp hx with rfl | hx)
   ·exact ⟨_, _, _, rfl, hM.at (i := 3) rfl, rfl, rfl⟩
   (rcases List.mem_cons.mp hx with rfl | hx)
   ·exact ⟨_, _, _, rfl, hM.at (i := 4) rfl, rfl, rfl⟩
   (rcases List.mem_cons.mp hx with rfl | hx)
   ·exact ⟨_, _, _, rfl, hM.at (i := 5) rfl, rfl, rfl⟩
   (rcases List.mem_cons.mp hx with rfl | hx)
   ·exact ⟨_, _, _, rfl, hM.at (i := 7) rfl, rfl, rfl⟩
   (rcases List.mem_cons.mp hx with rfl | hx)
   ·exact ⟨_, _, _, rfl, hM.at (i := 8) rfl, rfl, rfl⟩
   (rcases List.mem_cons.mp hx with rfl | hx)
   ·exact ⟨_, _, _, rfl, hM.at (i := 9) rfl, rfl, rfl⟩
   ·cases hx) rfl (by simp)
 have r4 := (cb_at (g := gReprE) r3).trans (repr_l h2)
 generalize s1 ++ [O.lst [.ref (m + 3), .ref (m + 4), .ref (m + 5), .ref (m + 7), .ref (m + 8), .ref (m + 9)]] = s2 at r4 ⊢
 clear r3
 have r5 : fCB gReprE (fCons (fOp (gMulL false) (fLst false (fCons (fVar 3) fNil)) (fC (.da (.int 6)))) fNil) (rho a0 a1 t (.da wd) (.da nd) (.da pd) (some (.ref (m + 13))) x7 x8 (some (.lst ([wd, pd] ++ List.replicate 5 nd))) x10) s2 = .ok (.str (PyData.list (List.replicate 6 wd)).shown) s2 := by
  have q2 : fLst false (fCons (fVar 3) fNil) (rho a0 a1 t (.da wd) (.da nd) (.da pd) (some (.ref (m + 13))) x7 x8 (some (.lst ([wd, pd] ++ List.replicate 5 nd))) x10) s2 = .ok (.lst [wd]) s2 := lst_da [wd] rfl (by simp)
  exact (cb_at ((op_at q2 rfl).trans (mul_l (k := 6) (by decide)))).trans (repr_l h2)
 refine (seq_nx (ifS_F (or_FF (test_F ((op_at r1 r2).trans neS)) (test_F ((op_at r4 r5).trans neS))))).trans ?_
 have u1 : fMakeX "MannerError" 2 FiMannerError (fCons (fC (.da (.str "a text"))) fNil) (rho a0 a1 t (.da wd) (.da nd) (.da pd) (some (.ref (m + 13))) x7 x8 (some (.lst ([wd, pd] ++ List.replicate 5 nd))) x10) s2 = .ok (.ref s2.length) (s2 ++ [.exc "MannerError" []]) :=
  (al_make (ds := [.da (.str "a text")]) (fun s => rfl) ⟨rfl, by decide⟩ fun s => i_me get_app rfl).ok s2
 refine (seq_nx (set_at u1)).trans ?_
 show fRet _ (rho a0 a1 t (.da wd) (.da nd) (.da pd) (some (.ref (m + 13))) x7 x8 (some (.lst ([wd, pd] ++ List.replicate 5 nd))) (some (.ref s2.length))) (s2 ++ [.exc "MannerError" []]) = _
 have g : (s2 ++ [O.exc "MannerError" []])[s2.length]? = some (.exc "MannerError" []) := get_app
 have v1 : fCB (gIsx xb xcs) (fCons (fVar 10) (fCons (fC (.ty "ValueError")) fNil)) (rho a0 a1 t (.da wd) (.da nd) (.da pd) (some (.ref (m + 13))) x7 x8 (some (.lst ([wd, pd] ++ List.replicate 5 nd))) (some (.ref s2.length))) (s2 ++ [.exc "MannerError" []]) = .ok (.bl true) (s2 ++ [.exc "MannerError" []]) := isx_ty g rfl
 have v2 : fCall 1 F_law_kinds (fCons (fVar 10) fNil) (rho a0 a1 t (.da wd) (.da nd) (.da pd) (some (.ref (m + 13))) x7 x8 (some (.lst ([wd, pd] ++ List.replicate 5 nd))) (some (.ref s2.length))) (s2 ++ [.exc "MannerError" []]) = .ok (.lst ((kindsB xb).map PyData.bool)) (s2 ++ [.exc "MannerError" []]) := kinds_ok g rfl
 have v3 : gNotIn (.da (.bool true)) (.lst ((kindsB xb).map PyData.bool)) (s2 ++ [.exc "MannerError" []]) = .ok (.bl true) (s2 ++ [.exc "MannerError" []]) := by
  obtain ⟨z1, z2, z3⟩ := kinds_base
  show (if okD (.bool true) = true /\ ((kindsB xb).map PyData.bool).all okD = true then R.ok (D.bl (nb true (((kindsB xb).map PyData.bool).any fun d => PyData.eqv d (.bool true)))) _ else .bad) = _
  rw [if_pos ⟨z1, z2⟩, z3]; rfl
 have v4 : fAnd (fCB (gIsx xb xcs) (fCons (fVar 10) (fCons (fC (.ty "ValueError")) fNil))) (fOp gNotIn (fC (.da (.bool true))) (fCall 1 F_law_kinds (fCons (fVar 10) fNil))) (rho a0 a1 t (.da wd) (.da nd) (.da pd) (some (.ref (m + 13))) x7 x8 (some (.lst ([wd, pd] ++ List.replicate 5 nd))) (some (.ref s2.length))) (s2 ++ [.exc "MannerError" []]) = .ok (.bl true) (s2 ++ [.exc "MannerError" []]) := by
  unfold fAnd
  rw [v1, R.bind_ok]
  exact (op_at rfl v2).trans v3
 unfold fRet
 rw [v4]; rfl
end
end Ln
namespace Ln
open PySem L2 PF
structure Sm (d : PyData) : Prop where
 ls : d.leavesShort 45 = true
 sh : d.showable = true
 bk : d.bulk <= 100
 dp : d.depth <= 4
theorem sms {ds : List PyData} (h : ∀ x ∈ ds, Sm x) : (PyData.leavesShortAll 45 ds = true /\ PyData.showableAll ds = true) /\ PyData.bulkAll ds <= 200 * ds.length + 200 /\ PyData.depthAll ds <= 4 := by
 induction ds with
 | nil => exact ⟨⟨rfl, rfl⟩, by simp [PyData.bulkAll], by simp [PyData.depthAll]⟩
 | cons x r ih =>
  obtain ⟨⟨a, b⟩, c, d⟩ := ih fun y hy => h y (List.mem_cons_of_mem _ hy)
  obtain ⟨p, q, u, v⟩ := h x List.mem_cons_self
  refine ⟨⟨by simp only [PyData.leavesShortAll, p, a, Bool.and_self], by simp only [PyData.showableAll, q, b, Bool.and_self]⟩, ?_, ?_⟩
  ·simp only [PyData.bulkAll, List.length_cons]; omega
  ·simp only [PyData.depthAll]; omega
theorem okE_sm {ds : List PyData} (h : ∀ x ∈ ds, Sm x) (hl : ds.length <= 20) : okE (.list ds) = true := by
 obtain ⟨⟨a, b⟩, c, d⟩ := sms h
 have ls : (PyData.list ds).leavesShort 45 = true := by simpa only [PyData.leavesShort] using a
 unfold PF.okE
 (simp only [Bool.and_eq_true, decide_eq_true_eq])
 refine ⟨⟨by simpa only [PyData.showable] using b, by simp only [PyData.depth]; omega⟩, ?_⟩
 have := PyData.shown_le_bulk 45 (by decide) _ ls
 have hb : (PyData.list ds).bulk <= 10000 := by simp only [PyData.bulk]; omega
 rw [sizeLine_eq']
 omega
theorem int_short {i : Int} (h : i.natAbs < 10 ^ 31) : (toString i).length <= 32 := int_text_length_le10 (k := 31) (by decide) h
theorem sm_int {i : Int} (h : i.natAbs <= 10000000000000) : Sm (.int i) := by
 have h31 : i.natAbs < 10 ^ 31 := by
  have e : (10 : Nat) ^ 31 = 10000000000000000000000000000000 := by decide
  omega
 refine ⟨?_, ?_, by simp only [PyData.bulk]; omega, by simp only [PyData.depth]; omega⟩
 ·simp only [PyData.leavesShort, decide_eq_true_eq]
  have := int_short h31
  show (Str.ofString (toString i)).length <= 45
  rw [ofString_length]
  omega
 ·simp only [PyData.showable, decide_eq_true_eq]
  by_cases z : i.natAbs = 0
  ·rw [z]; decide
  ·have h2 : i.natAbs < 2 ^ 104 := by
    have e : (2 : Nat) ^ 104 = 20282409603651670423947251286016 := by decide
    omega
   have := (Nat.log2_lt z).mpr h2
   omega
theorem bulk_ints : ∀ xs : List Int, PyData.bulkAll (xs.map PyData.int) = xs.length
 | [] => by simp [PyData.bulkAll]
 | x :: r => by simp only [List.map_cons, PyData.bulkAll, PyData.bulk, bulk_ints r, List.length_cons]; omega
theorem sm_tup {xs : List Int} (hl : xs.length <= 3) (h : ∀ x ∈ xs, 0 <= x /\ x < 12) : Sm (.tuple (xs.map PyData.int)) := by
 obtain ⟨⟨a, b⟩, _, d⟩ := sms (ds := xs.map PyData.int) fun x hx => by
  obtain ⟨i, hi, rfl⟩ := List.mem_map.mp hx
  have := h i hi
  exact sm_int (by omega)
 have e := bulk_ints xs
 have f := depth_ints xs
 exact ⟨by simpa only [PyData.leavesShort] using a, by simpa only [PyData.showable] using b, by simp only [PyData.bulk]; omega, by simp only [PyData.depth]; omega⟩
theorem texts5 : ∀ k : Fin 5, Sm (([.str "shape", .str "ports", .str "moment", .str "", .str "begin"] : List PyData).getD k .none) := fun k => by
 refine ⟨?_, ?_, ?_, ?_⟩ <;> revert k <;> decide +kernel
theorem sm_rest : ∀ x ∈ ([.none, .list [.int 1], .tuple [], .dict [], .bool true, .int 7, .int (-1), .int 0, .list [.int 2], .str "a", .dict [(.int 1, .tuple [])], .bool false, .list [.int 0], .int 3] : List PyData), Sm x := by
 intro x hx
 have : (x.leavesShort 45 && x.showable && decide (x.bulk <= 100) && decide (x.depth <= 4)) = true := by
  revert hx x
  have : (([.none, .list [.int 1], .tuple [], .dict [], .bool true, .int 7, .int (-1), .int 0, .list [.int 2], .str "a", .dict [(.int 1, .tuple [])], .bool false, .list [.int 0], .int 3] : List PyData).all fun x => (x.leavesShort 45 && x.showable && decide (x.bulk <= 100) && decide (x.depth <= 4))) = true := by decide +kernel
  exact List.all_eq_true.mp this
 simp only [Bool.and_eq_true, decide_eq_true_eq] at this
 exact ⟨this.1.1.1, this.1.1.2, this.1.2, this.2⟩
end Ln
namespace Ln
open PySem L2 PF
section
variable {s : S} {k c : Nat} {ρ : En}
theorem drawE {m : Int} (h : Fd s k c) (hm : 0 < m) (hm2 : m < 1073741824) (hc : c < 2 ^ 40) (hv : ∀ s, fCons (fVar 1) (fCons (fC (.da (.int m))) fNil) ρ s = .ok [.ref k, .int m] s) : (fCall 2 F_law_draw (fCons (fVar 1) (fCons (fC (.da (.int m))) fNil)) ρ s).W fun d s' => ∃ i : Nat, d = .int (i : Int) /\ (i : Int) < m /\ Fd s' k (c + 1) := by
 unfold fCall
 rw [hv, R.bind_ok, if_pos (show [D.ref k, D.int m].length = 2 from rfl)]
 refine R.W_mono (draw_ok h hm hm2 hc) fun d s' q => ?_
 obtain ⟨i, e, h0, h1, h2, _⟩ := q
 exact ⟨i.toNat, by rw [e, Int.toNat_of_nonneg h0], by rw [Int.toNat_of_nonneg h0]; exact h1, h2⟩
theorem pick {m : Nat} {fl : FE} {Q : D -> S -> Prop} (hl : (fl ρ s).W fun d s1 => ∃ (xs : List PyData) (c1 : Nat), d = .lst xs /\ xs.length = m /\ Fd s1 k c1 /\ c1 <= c /\ ∀ s2, Fd s2 k (c + 1) -> ∀ x ∈ xs, Q (.da x) s2) (hm : 0 < m) (hm2 : m < 1000) (hc : c < 1000) (hv : ∀ s, fCons (fVar 1) (fCons (fC (.da (.int (m : Int)))) fNil) ρ s = .ok [.ref k, .int (m : Int)] s) :
  (fOp gIx fl (fCall 2 F_law_draw (fCons (fVar 1) (fCons (fC (.da (.int (m : Int)))) fNil))) ρ s).W Q := by
 unfold fOp
 rw [R.W_bind]
 refine R.W_mono hl fun d s1 q => ?_
 obtain ⟨xs, c1, rfl, hx, h1, hc1, hq⟩ := q
 show ((fCall 2 F_law_draw (fCons (fVar 1) (fCons (fC (.da (.int (m : Int)))) fNil)) ρ s1).bind fun y s2 => gIx (.lst xs) y s2).W Q
 rw [R.W_bind]
 refine R.W_mono (drawE h1 (by omega) (by omega) (by omega) hv) fun d s2 q => ?_
 obtain ⟨i, rfl, hi, h2⟩ := q
 (have hlt : i < xs.length := by omega)
 show (gIx (.lst xs) (.int (i : Int)) s2).W Q
 rw [gIx_lst (List.getElem?_eq_getElem hlt)]
 exact hq s2 (h2.le (by omega)) _ (List.getElem_mem hlt)
theorem draws {all : List D} : ∀ (l : List D) (s : S) (c : Nat), Fd s k c -> c + l.length < 1000 -> (compF (.nm 0) fYes (fCall 2 F_law_draw (fCons (fVar 1) (fCons (fC (.da (.int 12))) fNil))) [none, some (.ref k)] (all, none) l s).W fun ds s' => ∃ xs : List Int, ds = xs.map D.int /\ xs.length = l.length /\ (∀ x ∈ xs, 0 <= x /\ x < 12) /\ Fd s' k (c + l.length)
 | [], s, c, h, _ => ⟨[], rfl, rfl, (fun x hx => by cases hx), h⟩
 | d :: r, s, c, h, hc => by
  rw [List.length_cons] at hc
  rw [comp_cons (ρ1 := [some d, some (.ref k)]) rfl]
  show (kComp1 (.nm 0) fYes (fCall 2 F_law_draw (fCons (fVar 1) (fCons (fC (.da (.int 12))) fNil))) [none, some (.ref k)] (all, none) r [some d, some (.ref k)] true s).W _
  rw [comp_t, R.W_bind]
  refine R.W_mono (drawE (ρ := [some d, some (.ref k)]) h (by decide) (by decide) (by omega) fun s => rfl) fun x s1 q => ?_
  obtain ⟨i, rfl, hi, h1⟩ := q
  rw [comp_x, R.W_bind]
  refine R.W_mono (draws r s1 (c + 1) h1 (by omega)) fun ds s2 q => ?_
  obtain ⟨xs, rfl, hl, hx, h2⟩ := q
  refine ⟨(i : Int) :: xs, rfl, by rw [List.length_cons, List.length_cons, hl], fun x hm => ?_, h2.le (by rw [List.length_cons]; omega)⟩
  (rcases List.mem_cons.mp hm with rfl | hm)
  ·exact ⟨by omega, hi⟩
  ·exact hx x hm
end
section
variable {a0 t w n p : D} {x5 x6 x7 x8 x9 x10 : Option D} {s : S} {k c : Nat}
theorem dc_ok {ρ : En} : fFrzD (fDctP (fpCons (fC (.da (.int 1))) (fTup fNil) fpNil)) ρ s = .ok (.da (.dict [(.int 1, .tuple [])])) (s ++ [.gone]) := by
 have e1 : fDctP (fpCons (fC (.da (.int 1))) (fTup fNil) fpNil) ρ s = .ok (.ref s.length) (s ++ [.dct [(.int 1, .tup [])]]) := by
  show ((gDset (.ref s.length) (.int 1) (.tup []) (s ++ [.dct []])).bind fun _ s1 => R.ok D.non s1).bind (fun _ s2 => R.ok (D.ref s.length) s2) = _
  have : gDset (.ref s.length) (.int 1) (.tup []) (s ++ [.dct []]) = .ok .non (s ++ [.dct [(.int 1, .tup [])]]) := by
   show (match (s ++ [O.dct []])[s.length]? with | some (O.dct kvs) => (if kSame kvs (.int 1) = true /\ kvs.length < sizeLine then R.ok D.non ((s ++ [O.dct []]).set s.length (.dct (dPut kvs (.int 1) (.tup [])))) else .bad) | _ => .bad) = _
   rw [get_app]
   show (if kSame [] (.int 1) = true /\ ([] : List (PyData × D)).length < sizeLine then R.ok D.non ((s ++ [O.dct []]).set s.length (.dct (dPut [] (.int 1) (.tup [])))) else .bad) = _
   rw [if_pos ⟨rfl, by rw [sizeLine_eq']; decide⟩, set_app]
   rfl
  rw [this]; rfl
 unfold fFrzD
 rw [e1, R.bind_ok]
 show (match (s ++ [O.dct [(.int 1, .tup [])]])[s.length]? with | some (O.dct [(.int i, .da v)]) => R.ok (D.da (.dict [(.int i, v)])) ((s ++ [O.dct [(.int 1, .tup [])]]).set s.length .gone) | _ => .bad) = _
 rw [get_app]
 show R.ok _ ((s ++ [O.dct [(.int 1, .tup [])]]).set s.length .gone) = _
 rw [set_app]
theorem consW {fe : FE} {fa : FA} {ρ : En} {Q : List D -> S -> Prop} (h : (fe ρ s).W fun d s1 => (fa ρ s1).W fun ds s2 => Q (d :: ds) s2) : (fCons fe fa ρ s).W Q := by
 unfold fCons
 rw [R.W_bind]
 refine R.W_mono h fun d s1 q => ?_
 show ((fa ρ s1).bind fun xs s2 => R.ok (d :: xs) s2).W Q
 rw [R.W_bind]
 exact R.W_mono q fun ds s2 q => q
theorem lstW {fa : FA} {ρ : En} {Q : D -> S -> Prop} (h : (fa ρ s).W fun ds s1 => ∃ xs : List PyData, ds = xs.map D.da /\ xs.length <= 1000 /\ Q (.lst xs) s1) : (fLst false fa ρ s).W Q := by
 unfold fLst
 rw [R.W_bind]
 refine R.W_mono h fun ds s1 q => ?_
 obtain ⟨xs, rfl, hl, q⟩ := q
 show (if (xs.map D.da).length <= sizeLine then newL false (xs.map D.da) s1 else .bad).W Q
 rw [if_pos (by rw [List.length_map, sizeLine_eq']; omega), newL_da]
 exact q
theorem fa_cons3 {fe : FE} {fa : FA} {ρ : En} {s s1 s2 : S} {d : D} {ds : List D} (h : fe ρ s = .ok d s1) (t : fa ρ s1 = .ok ds s2) : fCons fe fa ρ s = .ok (d :: ds) s2 := by
 unfold fCons; rw [h, R.bind_ok, t, R.bind_ok]
theorem one_l {ρ : En} {i : Int} : fLst false (fCons (fC (.da (.int i))) fNil) ρ s = .ok (.lst [.int i]) s := lst_da [.int i] rfl (by simp)
theorem num_ok {ρ : En} (hv : ∀ s, fCons (fVar 1) (fCons (fC (.da (.int 9))) fNil) ρ s = .ok [.ref k, .int 9] s) (h : Fd s k c) (hc : c < 1000) : (fLst false (fCons (fNeg (fC (.da (.int 1)))) (fCons (fC (.da (.int 0))) (fCons (fOp (gAdd false) (fOp gPow (fC (.da (.int 10))) (fC (.da (.int 12)))) (fCall 2 F_law_draw (fCons (fVar 1) (fCons (fC (.da (.int 9))) fNil)))) (fCons (fC (.da (.none))) (fCons (fLst false (fCons (fC (.da (.int 2))) fNil)) (fCons (fC (.da (.str "a"))) (fCons (fFrzD (fDctP (fpCons (fC (.da (.int 1))) (fTup fNil) fpNil))) (fCons (fC (.da (.bool false))) fNil)))))))) ρ s).W fun d s1 => ∃ (xs : List PyData), d = .lst xs /\ xs.length = 8 /\ Fd s1 k (c + 1) /\ ∀ x ∈ xs, Sm x := by
 refine lstW (consW ?_)
 show (fCons _ _ ρ s).W _
 refine consW ?_
 show (fCons _ _ ρ s).W _
 refine consW ?_
 have e1 : fOp gPow (fC (.da (.int 10))) (fC (.da (.int 12))) ρ s = .ok (.int 1000000000000) s := gPow_int (i := 10) (j := 12) (by decide) (by decide) (by decide)
 unfold fOp
 rw [show ((R.bind (fC (.da (.int 10)) ρ s) fun x s1 => R.bind (fC (.da (.int 12)) ρ s1) fun y s2 => gPow x y s2)) = .ok (.int 1000000000000) s from e1, R.bind_ok, R.W_bind]
 refine R.W_mono (drawE h (by decide) (by decide) (by omega) hv) fun d s1 q => ?_
 obtain ⟨i, rfl, hi, h1⟩ := q
 show (fCons _ _ ρ s1).W _
 rw [fa_cons3 (s1 := s1) (d := .da .none) rfl (fa_cons3 (one_l (i := 2)) (fa_cons3 (s1 := s1) (d := .da (.str "a")) rfl (fa_cons3 dc_ok (fa_cons3 (s1 := s1 ++ [.gone]) (d := .da (.bool false)) rfl fa_nil))))]
 refine ⟨[.int (-1), .int 0, .int (1000000000000 + (i : Int)), .none, .list [.int 2], .str "a", .dict [(.int 1, .tuple [])], .bool false], rfl, by simp, _, rfl, rfl, h1.ext (Ext.add _ _), fun x hx => ?_⟩
 by_cases z : x = .int (1000000000000 + (i : Int))
 ·rw [z]; exact sm_int (by omega)
 ·refine sm_rest x ?_
  (simp only [List.mem_cons, List.not_mem_nil, or_false] at hx)
  rcases hx with rfl | rfl | hx | rfl | rfl | rfl | rfl | rfl
  ·simp
  ·simp
  ·exact absurd hx z
  ·simp
  ·simp
  ·simp
  ·simp
  ·simp
end
end Ln
namespace Ln
open PySem L2 PF
theorem seqW {a b : FS} {ρ : En} {s : S} {Q : Fl -> S -> Prop} (h : (a ρ s).W fun fl s1 => ∃ ρ', fl = .nx ρ' /\ (b ρ' s1).W Q) : (fSeq a b ρ s).W Q := by
 unfold fSeq
 rw [R.W_bind]
 refine R.W_mono h fun fl s1 q => ?_
 obtain ⟨ρ', rfl, q⟩ := q
 exact q
theorem setW {fe : FE} {ρ : En} {s : S} {i : Nat} {Q : Fl -> S -> Prop} (h : (fe ρ s).W fun d s1 => Q (.nx (ρ.set i (some d))) s1) : (fSet i fe ρ s).W Q := by
 unfold fSet
 rw [R.W_bind]
 exact R.W_mono h fun d s1 q => q
theorem text_ok {s : S} {c : Nat} {ρ : En} (hv : ∀ s, fCons (fVar 1) (fCons (fC (.da (.int 5))) fNil) ρ s = .ok [.ref 0, .int 5] s) (h : Fd s 0 c) (hc : c < 1000) : (fOp gIx (fLst false (fVs (List.map D.da [.str "shape", .str "ports", .str "moment", .str "", .str "begin"]))) (fCall 2 F_law_draw (fCons (fVar 1) (fCons (fC (.da (.int 5))) fNil))) ρ s).W fun d s' => ∃ x, d = .da x /\ Sm x /\ Fd s' 0 (c + 1) := by
 refine pick (m := 5) (k := 0) (c := c) ?_ (by decide) (by decide) hc hv
 rw [lst_da [.str "shape", .str "ports", .str "moment", .str "", .str "begin"] rfl (by simp)]
 refine ⟨_, c, rfl, rfl, h, Nat.le_refl _, fun s2 h2 x hx => ⟨x, rfl, ?_, h2⟩⟩
 (simp only [List.mem_cons, List.not_mem_nil, or_false] at hx)
 rcases hx with rfl | rfl | rfl | rfl | rfl
 ·exact texts5 0
 ·exact texts5 1
 ·exact texts5 2
 ·exact texts5 3
 ·exact texts5 4
theorem word_ok {s : S} {c : Nat} {a0 : D} {td : PyData} {r : En} (ht : Sm td) (h : Fd s 0 c) (hc : c < 1000) : (fOp gIx (fLst false (fCons (fVar 2) (fCons (fVar 2) (fCons (fC (.da (.none))) (fCons (fLst false (fCons (fC (.da (.int 1))) fNil)) (fCons (fTup fNil) (fCons fDctE (fCons (fC (.da (.bool true))) (fCons (fC (.da (.int 7))) fNil))))))))) (fCall 2 F_law_draw (fCons (fVar 1) (fCons (fC (.da (.int 8))) fNil))) (some a0 :: some (.ref 0) :: some (.da td) :: r) s).W fun d s' => ∃ x, d = .da x /\ Sm x /\ Fd s' 0 (c + 1) := by
 refine pick (m := 8) (k := 0) (c := c) ?_ (by decide) (by decide) hc fun s => rfl
 rw [lst_da [td, td, .none, .list [.int 1], .tuple [], .dict [], .bool true, .int 7] (fa_cons (d := .da td) rfl (fa_cons (d := .da td) rfl (fa_cons (d := .da .none) rfl (fa_cons one_l (fa_cons (d := .da (.tuple [])) rfl (fa_cons (d := .da (.dict [])) rfl (fa_cons (d := .da (.bool true)) rfl (fa_cons (d := .da (.int 7)) rfl fa_nil)))))))) (by simp)]
 refine ⟨_, c, rfl, rfl, h, Nat.le_refl _, fun s2 h2 x hx => ⟨x, rfl, ?_, h2⟩⟩
 (simp only [List.mem_cons, List.not_mem_nil, or_false] at hx)
 rcases hx with rfl | rfl | rfl | rfl | rfl | rfl | rfl | rfl
 ·exact ht
 ·exact ht
 all_goals exact sm_rest _ (by simp)
theorem number_ok {s : S} {c : Nat} {a0 : D} {r : En} (h : Fd s 0 c) (hc : c + 1 < 1000) : (fOp gIx (fLst false (fCons (fNeg (fC (.da (.int 1)))) (fCons (fC (.da (.int 0))) (fCons (fOp (gAdd false) (fOp gPow (fC (.da (.int 10))) (fC (.da (.int 12)))) (fCall 2 F_law_draw (fCons (fVar 1) (fCons (fC (.da (.int 9))) fNil)))) (fCons (fC (.da (.none))) (fCons (fLst false (fCons (fC (.da (.int 2))) fNil)) (fCons (fC (.da (.str "a"))) (fCons (fFrzD (fDctP (fpCons (fC (.da (.int 1))) (fTup fNil) fpNil))) (fCons (fC (.da (.bool false))) fNil))))))))) (fCall 2 F_law_draw (fCons (fVar 1) (fCons (fC (.da (.int 8))) fNil))) (some a0 :: some (.ref 0) :: r) s).W fun d s' => ∃ x, d = .da x /\ Sm x /\ Fd s' 0 (c + 2) := by
 refine pick (m := 8) (k := 0) (c := c + 1) ?_ (by decide) (by decide) hc fun s => rfl
 refine R.W_mono (num_ok (k := 0) (c := c) (fun s => rfl) h (by omega)) fun d s1 q => ?_
 obtain ⟨xs, rfl, hl, h1, hx⟩ := q
 exact ⟨xs, c + 1, rfl, hl, h1, Nat.le_refl _, fun s2 h2 x hm => ⟨x, rfl, hx x hm, h2⟩⟩
theorem tup_ok {s : S} {c : Nat} {a0 : D} {r : En} (h : Fd s 0 c) (hc : c + 4 < 900) : (fCB gTuple (fCons (fLc false [1] 1 (fRng (fCons (fCall 2 F_law_draw (fCons (fVar 1) (fCons (fC (.da (.int 4))) fNil))) fNil)) (.nm 0) fYes (fCall 2 F_law_draw (fCons (fVar 1) (fCons (fC (.da (.int 12))) fNil)))) fNil) (some a0 :: some (.ref 0) :: r) s).W fun d s' => ∃ x, d = .da x /\ Sm x /\ Fd s' 0 (c + 4) := by
 unfold fCB
 rw [R.W_bind]
 refine consW ?_
 unfold fLc
 rw [R.W_bind]
 unfold fRng
 rw [R.W_bind]
 refine consW ?_
 refine R.W_mono (drawE (k := 0) (ρ := some a0 :: some (.ref 0) :: r) h (by decide) (by decide) (by omega) fun s => rfl) fun d s1 q => ?_
 obtain ⟨i, ed, hi, h1⟩ := q
 show (gRng [d] s1).W _
 rw [ed, rng_ok (by omega) (by omega)]
 clear ed
 show (if (rngD 0 (Int.toNat (i : Int))).length <= sizeLine then chk (rngD 0 (Int.toNat (i : Int)), none) s1 _ else .bad).W _
 rw [Int.toNat_natCast, if_pos (by rw [rng_len, sizeLine_eq']; omega), chk_none]
 show ((compF (.nm 0) fYes _ [none, some (.ref 0)] (rngD 0 i, none) (rngD 0 i) s1).bind fun ds s2 => newL false ds s2).W _
 rw [R.W_bind]
 refine R.W_mono (draws (k := 0) (rngD 0 i) s1 (c + 1) h1 (by rw [rng_len]; omega)) fun ds s2 q => ?_
 obtain ⟨xs, rfl, hl, hx, h2⟩ := q
 rw [rng_len] at hl h2
 show (newL false (xs.map D.int) s2).W _
 rw [show xs.map D.int = (xs.map PyData.int).map D.da by rw [List.map_map]; rfl, newL_da]
 show (gTuple [.lst (xs.map PyData.int)] s2).W _
 rw [tuple_lst]
 exact ⟨_, rfl, sm_tup (by omega) hx, h2.le (by omega)⟩
theorem path_ok {s : S} {c : Nat} {a0 t w n : D} {pd : PyData} {r : En} (hp : Sm pd) (h : Fd s 0 c) (hc : c < 1000) : (fOp gIx (fLst false (fCons (fVar 5) (fCons (fVar 5) (fCons (fVar 5) (fCons (fC (.da (.none))) (fCons (fLst false (fCons (fC (.da (.int 0))) fNil)) (fCons (fC (.da (.str "a"))) (fCons fDctE (fCons (fC (.da (.int 3))) fNil))))))))) (fCall 2 F_law_draw (fCons (fVar 1) (fCons (fC (.da (.int 8))) fNil))) (some a0 :: some (.ref 0) :: some t :: some w :: some n :: some (.da pd) :: r) s).W fun d s' => ∃ x, d = .da x /\ Sm x /\ Fd s' 0 (c + 1) := by
 refine pick (m := 8) (k := 0) (c := c) ?_ (by decide) (by decide) hc fun s => rfl
 rw [lst_da [pd, pd, pd, .none, .list [.int 0], .str "a", .dict [], .int 3] (fa_cons (d := .da pd) rfl (fa_cons (d := .da pd) rfl (fa_cons (d := .da pd) rfl (fa_cons (d := .da .none) rfl (fa_cons one_l (fa_cons (d := .da (.str "a")) rfl (fa_cons (d := .da (.dict [])) rfl (fa_cons (d := .da (.int 3)) rfl fa_nil)))))))) (by simp)]
 refine ⟨_, c, rfl, rfl, h, Nat.le_refl _, fun s2 h2 x hx => ⟨x, rfl, ?_, h2⟩⟩
 (simp only [List.mem_cons, List.not_mem_nil, or_false] at hx)
 rcases hx with rfl | rfl | rfl | rfl | rfl | rfl | rfl | rfl
 ·exact hp
 ·exact hp
 ·exact hp
 all_goals exact sm_rest _ (by simp)
theorem law_true (ns : List Int) : (Flaw [.frz (ns.map PyData.int)] []).W fun d _ => d = .bl true := by
 rw [elaw, R.W_bind]
 unfold Blaw
 refine seqW (setW ?_)
 refine R.W_mono (show (fCall 1 F_law_feed (fCons (fVar 0) fNil) _ _).W _ from feed_ok ns) fun d s1 q => ?_
 obtain ⟨rfl, h1⟩ := q
 refine ⟨_, rfl, seqW (setW (R.W_mono (text_ok (fun s => rfl) h1 (by decide)) fun d s2 q => ?_))⟩
 obtain ⟨td, rfl, ht, h2⟩ := q
 refine ⟨_, rfl, seqW (setW (R.W_mono (word_ok ht h2 (by decide)) fun d s3 q => ?_))⟩
 obtain ⟨wd, rfl, hw, h3⟩ := q
 refine ⟨_, rfl, seqW (setW (R.W_mono (number_ok h3 (by decide)) fun d s4 q => ?_))⟩
 obtain ⟨nd, rfl, hn, h4⟩ := q
 refine ⟨_, rfl, seqW (setW (R.W_mono (tup_ok h4 (by decide)) fun d s5 q => ?_))⟩
 obtain ⟨qd, rfl, hq, h5⟩ := q
 refine ⟨_, rfl, seqW (setW (R.W_mono (path_ok hq h5 (by decide)) fun d s6 q => ?_))⟩
 obtain ⟨pd, rfl, hp, h6⟩ := q
 refine ⟨_, rfl, ?_⟩
 show (fSeq _ _ (rho (.frz (ns.map PyData.int)) (.ref 0) (.da td) (.da wd) (.da nd) (.da pd) none none none none none) s6).W _
 rw [made_ok]
 have hM : Md (s6 ++ big s6.length (.da wd) (.da nd) (.da pd)) s6.length (.da wd) (.da nd) (.da pd) := ⟨s6, [], by rw [List.append_nil], rfl⟩
 obtain ⟨y7, y8, e⟩ := for_ok (a0 := .frz (ns.map PyData.int)) (a1 := .ref 0) (t := .da td) (x7 := none) (x8 := none) (x9 := none) (x10 := none) hM
 have e1 : okE (.list ([wd, pd] ++ List.replicate 5 nd)) = true := okE_sm (fun x hx => by
  simp only [List.cons_append, List.nil_append, List.mem_cons, List.mem_replicate] at hx
  rcases hx with rfl | rfl | ⟨_, rfl⟩
  ·exact hw
  ·exact hp
  ·exact hn) (by simp)
 have e2 : okE (.list (List.replicate 6 wd)) = true := okE_sm (fun x hx => by
  obtain ⟨_, rfl⟩ := List.mem_replicate.mp hx
  exact hw) (by simp)
 obtain ⟨s', e3⟩ := end_ok (a0 := .frz (ns.map PyData.int)) (a1 := .ref 0) (t := .da td) (x7 := y7) (x8 := y8) (x9 := none) (x10 := none) hM e1 e2
 rw [(seq_nx e).trans e3]
 rfl
end Ln
namespace PF
open PySem PySem.Spec
open L2 EX
structure XC (K : PySem.W.Frag) (C : Str) (Ca f : Addr) (bm : List Value) (fl : List Str) : Prop where
 at_ : PySem.W.nsIn K mainGlobals C = some (some (.ref Ca))
 lk : ∃ nm q N bs sn sub ab col dd k0 k1 k2 k3 k5, K.lookup Ca = some (excClassObj nm q Ca N bs bm true sn sub ab col dd k0 k1 k2 k3 k5 "ValueError.__new__")
 cl : ClsX K Ca
 mkx : MkX K Ca f
 cm : ClsM K Ca "__init__" f
 na : ∀ g ∈ fl, NoAttr K Ca g
theorem xc_mk {K : PySem.W.Frag} {C : Str} {Ca f N : Addr} {bm bs sub : List Value} {nm q : Str} {sn : List Str} {ab : Bool} {col : Option Bool} {dd : Option Addr} {k0 k1 k2 k3 k5 : Option Value} {g0 g1 g2 g3 : Str}
  (a : PySem.W.nsIn K mainGlobals C = some (some (.ref Ca))) (l : K.lookup Ca = some (excClassObj nm q Ca N bs bm true sn sub ab col dd k0 k1 k2 k3 k5 "ValueError.__new__")) (av : Above bm)
  (ga : PySem.W.findIn K (.ref Ca) "__getattribute__" = some (some (.builtin "BaseException.__getattribute__"))) (gt : PySem.W.findIn K (.ref Ca) "__getattr__" = some none) (sa : PySem.W.findIn K (.ref Ca) "__setattr__" = some (some (.builtin "object.__setattr__")))
  (ca : PySem.W.findIn K (.ref Ca) "__class__" = some (some (.builtin "object.__class__"))) (cg : PySem.W.specialIn K (.builtin "object.__class__") "__get__" = some (some (.builtin "getset_descriptor.__get__"))) (ct : PySem.W.takesIn K (.builtin "object.__class__") = some true)
  (i : PySem.W.findIn K (.ref Ca) "__init__" = some (some (.ref f))) (n : PySem.W.isFn K (.ref f) = true) (k : PySem.W.keepIn K (.ref Ca) = true)
  (r : PySem.W.readsIn K Ca (.type "type") = true) (m : PySem.W.findCls K (.ref Ca) (.type "type") "__init__" = some (.val (.ref f))) (sg : PySem.W.specialIn K (.ref Ca) "__getattribute__" = some (some (.builtin "type.__getattribute__"))) (kf : PySem.W.keepIn K (.ref f) = true)
  (h0 : PySem.W.findIn K (.ref Ca) g0 = some none) (h1 : PySem.W.findIn K (.ref Ca) g1 = some none) (h2 : PySem.W.findIn K (.ref Ca) g2 = some none) (h3 : PySem.W.findIn K (.ref Ca) g3 = some none) : XC K C Ca f bm [g0, g1, g2, g3] := by
 have cl : ClsX K Ca := ⟨⟨⟨nm, q, N, bs, bm, sn, sub, ab, col, dd, k0, k1, k2, k3, k5, l, av⟩, ga, gt, sa⟩, ca, cg, ct⟩
 refine ⟨a, ⟨nm, q, N, bs, sn, sub, ab, col, dd, k0, k1, k2, k3, k5, l⟩, cl, ⟨cl, i, n, k⟩, ⟨r, m, sg, kf⟩, fun g hg => ?_⟩
 rcases List.mem_cons.mp hg with rfl | hg
 ·exact h0
 rcases List.mem_cons.mp hg with rfl | hg
 ·exact h1
 rcases List.mem_cons.mp hg with rfl | hg
 ·exact h2
 rcases List.mem_cons.mp hg with rfl | hg
 ·exact h3
 ·cases hg
inductive XCs (K : PySem.W.Frag) (bm : List Value) (fl : List Str) : List (Str × Addr) -> Prop
 | nil : XCs K bm fl []
 | cons {C : Str} {Ca f : Addr} {l : List (Str × Addr)} : XC K C Ca f bm fl -> XCs K bm fl l -> XCs K bm fl ((C, Ca) :: l)
section
variable {K : PySem.W.Frag} {mg : Str -> Option Value} {b : Str} {M : Addr} {L : List (Str × Addr)} {fl : List Str} {bm : List Value}
theorem XCs.mem (x : XCs K bm fl L) : ∀ {p : Str × Addr}, p ∈ L -> ∃ f, XC K p.1 p.2 f bm fl := by
 induction x with
 | nil => intro p hp; cases hp
 | cons a _ ih =>
  intro p hp
  rcases List.mem_cons.mp hp with rfl | hp
  ·exact ⟨_, a⟩
  ·exact ih hp
theorem XC.kit {C D : Str} {Ca f Da g : Addr} {bm' : List Value} (x : XC K C Ca f bm fl) (y : XC K D Da g bm' fl) : PySem.W.kitOne K (.ref Ca) (.ref Da) = some ((Da == Ca) || bm.contains (.ref Da)) := by
 obtain ⟨nm, q, N, bs, sn, sub, ab, col, dd, k0, k1, k2, k3, k5, e⟩ := x.lk
 obtain ⟨nm', q', N', bs', sn', sub', ab', col', dd', l0, l1, l2, l3, l5, e'⟩ := y.lk
 unfold PySem.W.kitOne
 by_cases z : Ca = Da
 ·subst z
  rw [if_pos (by simp)]
  simp
 ·rw [if_neg (by simpa using z)]
  have h1 : ((PySem.W.clsIn K Da).isSome && PySem.W.typeIn K (.ref Da) == some (.type "type")) = true := by
   simp [PySem.W.clsIn, PySem.W.typeIn, e']
  have z' : (Da == Ca) = false := beq_eq_false_iff_ne.mpr (Ne.symm z)
  unfold PySem.W.kitCls
  dsimp only
  rw [if_pos h1]
  simp only [PySem.W.subIn, PySem.W.mroIn, PySem.W.clsIn, e, Option.bind_some]
  rw [if_neg (by simp), z', List.contains_cons]
  have : (Value.ref Da == Value.ref Ca) = false := beq_eq_false_iff_ne.mpr fun q => z (Value.ref.inj q).symm
  rw [this]
theorem XC.kitV {C : Str} {Ca f : Addr} (x : XC K C Ca f bm fl) (av : Above bm) : PySem.W.kitOne K (.ref Ca) (.type "ValueError") = some true := by
 obtain ⟨nm, q, N, bs, sn, sub, ab, col, dd, k0, k1, k2, k3, k5, e⟩ := x.lk
 unfold PySem.W.kitOne
 rw [if_neg (by simp)]
 have hk : PySem.W.kitMeta "ValueError" = true := by decide +kernel
 simp only [PySem.W.kitCls, hk, if_true, PySem.W.subIn, PySem.W.mroIn, PySem.W.clsIn, e, Option.bind_some]
 rw [if_neg (by simp), List.contains_cons, av.has (T := "ValueError") (b := true) (by decide +kernel), Bool.or_true]
theorem nd_inj : ∀ {L : List (Str × Addr)}, (L.map (·.2)).Nodup -> ∀ p ∈ L, ∀ q ∈ L, p.2 = q.2 -> p = q
 | [], _, p, hp, _, _, _ => by cases hp
 | a :: r, nd, p, hp, q, hq, e => by
  rw [List.map_cons, List.nodup_cons] at nd
  rcases List.mem_cons.mp hp with h1 | h1 <;> rcases List.mem_cons.mp hq with h2 | h2
  ·rw [h1, h2]
  ·subst h1; exact absurd (List.mem_map.mpr ⟨q, h2, e.symm⟩) nd.1
  ·subst h2; exact absurd (List.mem_map.mpr ⟨p, h1, e⟩) nd.1
  ·exact nd_inj nd.2 p h1 q h2 e
theorem xt_of {fb : Addr} (G : ∀ (C : Str) (Ca : Addr), PySem.W.nsIn K mainGlobals C = some (some (.ref Ca)) -> mg C = some (.ref Ca)) (x0 : XC K b M fb bmV fl) (x : XCs K (.ref M :: bmV) fl L) (nd : (M :: L.map (·.2)).Nodup) : XT K mg b (L.map (·.1)) fl := by
 have hv : ∀ Da : Addr, bmV.contains (.ref Da) = false := fun Da => by simp
 obtain ⟨nM, nd⟩ := List.nodup_cons.mp nd
 have inj := nd_inj nd
 refine ⟨fun C hC => ?_⟩
 rcases List.mem_cons.mp hC with rfl | hC
 ·refine ⟨M, x0.at_, G _ _ x0.at_, x0.cl, x0.na, x0.kitV .base, fun D hD Da hDa => ?_⟩
  rcases List.mem_cons.mp hD with rfl | hD
  ·have e := x0.at_.symm.trans hDa; cases e
   rw [x0.kit x0, hv]; simp
  ·obtain ⟨q, hq, rfl⟩ := List.mem_map.mp hD
   obtain ⟨g, y⟩ := x.mem hq
   have e := y.at_.symm.trans hDa; cases e
   have ne : q.2 ≠ M := fun z => nM (z ▸ List.mem_map.mpr ⟨q, hq, rfl⟩)
   have ne2 : q.1 ≠ C := fun z => by
    have := y.at_
    rw [z, x0.at_] at this
    injection this with this; injection this with this
    exact ne (Value.ref.inj this).symm
   rw [x0.kit y, hv, beq_eq_false_iff_ne.mpr ne, beq_eq_false_iff_ne.mpr ne2]
 ·obtain ⟨p, hp, rfl⟩ := List.mem_map.mp hC
  obtain ⟨f, xp⟩ := x.mem hp
  have neM : p.2 ≠ M := fun z => nM (z ▸ List.mem_map.mpr ⟨p, hp, rfl⟩)
  refine ⟨p.2, xp.at_, G _ _ xp.at_, xp.cl, xp.na, xp.kitV (.own M .base), fun D hD Da hDa => ?_⟩
  rcases List.mem_cons.mp hD with rfl | hD
  ·have e := x0.at_.symm.trans hDa; cases e
   rw [xp.kit x0]; simp
  ·obtain ⟨q, hq, rfl⟩ := List.mem_map.mp hD
   obtain ⟨g, y⟩ := x.mem hq
   have e := y.at_.symm.trans hDa; cases e
   have ne : q.2 ≠ M := fun z => nM (z ▸ List.mem_map.mpr ⟨q, hq, rfl⟩)
   have ne2 : q.1 ≠ b := fun z => by
    have := y.at_
    rw [z, x0.at_] at this
    injection this with this; injection this with this
    exact ne (Value.ref.inj this).symm
   rw [xp.kit y, List.contains_cons, hv]
   by_cases z : q.2 = p.2
   ·have := inj q hq p hp z
    subst this
    simp
   ·have z2 : q.1 ≠ p.1 := fun w => by
     have := y.at_
     rw [w, xp.at_] at this
     injection this with this; injection this with this
     exact z (Value.ref.inj this).symm
    have e3 : (Value.ref q.2 == Value.ref M) = false := beq_eq_false_iff_ne.mpr fun w => ne (Value.ref.inj w)
    rw [e3, beq_eq_false_iff_ne.mpr z, beq_eq_false_iff_ne.mpr z2, beq_eq_false_iff_ne.mpr ne2]; rfl
theorem hasX_mk {C q : Str} {st : Stmt} {ps fl : List Str} {Ca f : Addr} {od an : Option Addr} {sl : Array (Option Value)} {oc kV dc pm cd ct : Value} (G : ∀ (C : Str) (Ca : Addr), PySem.W.nsIn K mainGlobals C = some (some (.ref Ca)) -> mg C = some (.ref Ca)) (x : XC K C Ca f bm fl)
  (l : K.lookup f = some ⟨oc, od, .func (PySem.W.fnOf "__init__" q (defArgs st) (defBody st) (defScope st) .none kV dc pm an cd ct), sl⟩) (c : PySem.W.codeIn K cd q = true)
  (b : ∀ (kV doc pm : Value) (an : Option Addr) (cdv ct : Value) (us : List Value), us.length = ps.length -> bindArgs (PySem.W.fnOf "__init__" q (defArgs st) (defBody st) (defScope st) .none kV doc pm an cdv ct) ⟨us, []⟩ = pure (ps.zip us)) : HasX K mg C q st ps :=
 ⟨Ca, f, _, x.at_, G _ _ x.at_, x.mkx, x.cm, fun_mk (st := st) l c x.cm.kp, (fun_mk (st := st) l c x.cm.kp).binds b⟩
end
end PF
namespace Ln
open PySem L2 PF
section
variable {P : Program} {w : World} {K : PySem.W.Frag} {mg : Str -> Option Value} {base : Heap}
theorem fnlaw {f : Addr} {fd : FuncData} (F : Fun K "law" "law" s_law f fd) (T : Txt0 K mg) : FnOk P w K mg base CX0 5 f fd ["_law_script"] (spF K 1 Flaw) := by
 have ciMannerError := okiMannerError (P := P) (w := w) (base := base) T
 have ciNoAlike := okiNoAlike (P := P) (w := w) (base := base) T
 have ciNoBack := okiNoBack (P := P) (w := w) (base := base) T
 have ciNoJoin := okiNoJoin (P := P) (w := w) (base := base) T
 have ciNoLeast := okiNoLeast (P := P) (w := w) (base := base) T
 have ciNoMoment := okiNoMoment (P := P) (w := w) (base := base) T
 have ciNoNet := okiNoNet (P := P) (w := w) (base := base) T
 have ciNoRow := okiNoRow (P := P) (w := w) (base := base) T
 have ciNoTable := okiNoTable (P := P) (w := w) (base := base) T
 have ciNoText := okiNoText (P := P) (w := w) (base := base) T
 have ciNoWish := okiNoWish (P := P) (w := w) (base := base) T
 have ciTooMany := okiTooMany (P := P) (w := w) (base := base) T
 have c_law_feed := ok_law_feed (P := P) (w := w) (base := base) T
 have c_law_draw := ok_law_draw (P := P) (w := w) (base := base) T
 have c_law_kinds := ok_law_kinds (P := P) (w := w) (base := base) T
 exact fnF (k := 4) F sclaw rfl rfl (fun f cdv A outer s H E hr =>
   (rss_cons (rs_set (i := 1) sclaw.nd rfl (Or.inr rfl) (re_c c_law_feed (hr.mono (by decide)) (ra_cons (re_var 0) ra_nil)))
   (rss_cons (rs_set (i := 2) sclaw.nd rfl (Or.inl rfl) (re_ix (re_lst false (ra_consts rfl)) (re_c c_law_draw (hr.mono (by decide)) (ra_cons (re_var 1) (ra_cons re_int ra_nil)))))
   (rss_cons (rs_set (i := 3) sclaw.nd rfl (Or.inl rfl) (re_ix (re_lst false (ra_cons (re_var 2) (ra_cons (re_var 2) (ra_cons re_non (ra_cons (re_lst false (ra_cons re_int ra_nil)) (ra_cons (re_tup ra_nil) (ra_cons re_dctE (ra_cons re_bl (ra_cons re_int ra_nil))))))))) (re_c c_law_draw (hr.mono (by decide)) (ra_cons (re_var 1) (ra_cons re_int ra_nil)))))
   (rss_cons (rs_set (i := 4) sclaw.nd rfl (Or.inl rfl) (re_ix (re_lst false (ra_cons (re_neg re_int) (ra_cons re_int (ra_cons (re_op (o_add false) (re_op o_pow re_int re_int) (re_c c_law_draw (hr.mono (by decide)) (ra_cons (re_var 1) (ra_cons re_int ra_nil)))) (ra_cons re_non (ra_cons (re_lst false (ra_cons re_int ra_nil)) (ra_cons re_str (ra_cons (re_frzD (re_dctP (u70 hr) (rp_cons re_int (re_tup ra_nil) rp_nil))) (ra_cons re_bl ra_nil))))))))) (re_c c_law_draw (hr.mono (by decide)) (ra_cons (re_var 1) (ra_cons re_int ra_nil)))))
   (rss_cons (rs_set (i := 5) sclaw.nd rfl (Or.inl rfl) (re_ct c_tuple T.n_tuple b_tuple (ra_cons (re_lc false (own := ["_law_k"]) (caps := ["_law_feed_here"]) (js := [1]) rfl rfl rfl rfl rfl (⟨⟨rfl, Or.inr (Or.inl rfl), rfl, rfl⟩, trivial⟩) rfl (ri_rng T.n_range (ra_cons (re_c c_law_draw (hr.mono (by decide)) (ra_cons (re_var 1) (ra_cons re_int ra_nil))) ra_nil)) (fun _ _ _ _ => (rg_name (i := 0) (show (["_law_k", "_law_feed_here"] : List Str).Nodup by decide +kernel) rfl (Or.inl rfl) (Or.inr rfl))) (fun _ _ _ _ => rifs_nil) (fun _ _ _ _ => (re_c c_law_draw (hr.mono (by decide)) (ra_cons (re_var 1) (ra_cons re_int ra_nil))))) ra_nil)))
   (rss_cons (rs_set (i := 5) sclaw.nd rfl (Or.inl rfl) (re_ix (re_lst false (ra_cons (re_var 5) (ra_cons (re_var 5) (ra_cons (re_var 5) (ra_cons re_non (ra_cons (re_lst false (ra_cons re_int ra_nil)) (ra_cons re_str (ra_cons re_dctE (ra_cons re_int ra_nil))))))))) (re_c c_law_draw (hr.mono (by decide)) (ra_cons (re_var 1) (ra_cons re_int ra_nil)))))
   (rss_cons (rs_set (i := 6) sclaw.nd rfl (Or.inl rfl) (re_lst true (ra_cons (re_makeX ciNoNet (hr.mono (by decide)) (ra_cons (re_var 3) (ra_cons (re_var 5) ra_nil))) (ra_cons (re_makeX ciNoText (hr.mono (by decide)) (ra_cons (re_var 4) ra_nil)) (ra_cons (re_makeX ciNoMoment (hr.mono (by decide)) (ra_cons (re_var 4) ra_nil)) (ra_cons (re_makeX ciTooMany (hr.mono (by decide)) (ra_cons (re_var 3) ra_nil)) (ra_cons (re_makeX ciNoJoin (hr.mono (by decide)) (ra_cons (re_var 3) ra_nil)) (ra_cons (re_makeX ciNoAlike (hr.mono (by decide)) (ra_cons (re_var 3) (ra_cons (re_var 4) ra_nil))) ra_nil))))))))
   (rss_cons (rs_set (i := 6) sclaw.nd rfl (Or.inl rfl) (re_op (o_add true) (re_var 6) (re_lst true (ra_cons (re_makeX ciNoLeast (hr.mono (by decide)) (ra_cons (re_var 3) (ra_cons (re_var 4) ra_nil))) (ra_cons (re_makeX ciNoWish (hr.mono (by decide)) (ra_cons (re_var 3) (ra_cons (re_var 4) ra_nil))) (ra_cons (re_makeX ciNoTable (hr.mono (by decide)) (ra_cons (re_var 3) ra_nil)) (ra_cons (re_makeX ciNoBack (hr.mono (by decide)) (ra_cons (re_var 2) ra_nil)) (ra_cons (re_makeX ciNoRow (hr.mono (by decide)) (ra_cons (re_var 2) ra_nil)) ra_nil))))))))
   (rss_cons (rs_for rfl (ri_rng T.n_range (ra_cons (re_cb c_len T.n_len b_len (ra_cons (re_var 6) ra_nil)) ra_nil)) (rg_name (i := 7) sclaw.nd rfl (Or.inr rfl)) (rss_cons (rs_set (i := 8) sclaw.nd rfl (Or.inl rfl) (re_ix (re_var 6) (re_var 7)))
   (rss_cons (rs_if (RW.rt (rw_or (rt_not (rt_tru (re_cb (c_isx T.x) T.n_isinstance b_isinstance (ra_cons (re_var 8) (ra_cons (re_cls T.x rfl) ra_nil))))) (rw_or1 (rt_not (rt_tru (re_cb (c_isx T.x) T.n_isinstance b_isinstance (ra_cons (re_var 8) (ra_cons (re_bltn T.n_ValueError PyProof.Rows.Boot.«ValueError») ra_nil)))))))) (rss_one (rs_ret re_bl)) rss_nil)
   (rss_one (rs_if (rt_cmp (o_ne (u64 hr)) (re_c c_law_kinds (hr.mono (by decide)) (ra_cons (re_var 8) ra_nil)) (re_lc false (own := ["_law_j"]) (caps := ["_law_k"]) (js := [7]) rfl rfl rfl rfl rfl (⟨⟨rfl, Or.inr (Or.inl rfl), rfl, rfl⟩, trivial⟩) rfl (ri_rng T.n_range (ra_cons re_int ra_nil)) (fun _ _ _ _ => (rg_name (i := 0) (show (["_law_j", "_law_k"] : List Str).Nodup by decide +kernel) rfl (Or.inl rfl) (Or.inr rfl))) (fun _ _ _ _ => rifs_nil) (fun _ _ _ _ => (re_cmp (o_eq (u64 hr)) (re_var 0) (re_var 1))))) (rss_one (rs_ret re_bl)) rss_nil)))))
   (rss_cons (rs_set (i := 9) sclaw.nd rfl (Or.inl rfl) (re_op (o_add false) (re_lst false (ra_cons (re_fldX T.x (re_ix (re_var 6) re_int)) (ra_cons (re_fldX T.x (re_ix (re_var 6) re_int)) (ra_cons (re_fldX T.x (re_ix (re_var 6) re_int)) (ra_cons (re_fldX T.x (re_ix (re_var 6) re_int)) ra_nil))))) (re_lc false (own := ["_law_e"]) (caps := []) (js := []) rfl rfl rfl rfl rfl (trivial) rfl (ri_any (re_slice true (re_var 6) (ro_some re_int) (ro_some re_int))) (fun _ _ _ _ => (rg_name (i := 0) (show (["_law_e"] : List Str).Nodup by decide +kernel) rfl (Or.inl rfl) (Or.inr rfl))) (fun _ _ _ _ => rifs_nil) (fun _ _ _ _ => (re_fldX T.x (re_var 0))))))
   (rss_cons (rs_if (RW.rt (rw_or (rt_cmp (o_ne (u64 hr)) (re_cb (c_reprE hr) T.n_repr b_repr (ra_cons (re_var 9) ra_nil)) (re_cb (c_reprE hr) T.n_repr b_repr (ra_cons (re_op (o_add false) (re_lst false (ra_cons (re_var 3) (ra_cons (re_var 5) ra_nil))) (re_op (o_mulL false) (re_lst false (ra_cons (re_var 4) ra_nil)) re_int)) ra_nil))) (rw_or1 (rt_cmp (o_ne (u64 hr)) (re_cb (c_reprE hr) T.n_repr b_repr (ra_cons (re_lc false (own := ["_law_e"]) (caps := []) (js := []) rfl rfl rfl rfl rfl (trivial) rfl (ri_any (re_slice true (re_var 6) (ro_some re_int) (ro_some re_int))) (fun _ _ _ _ => (rg_name (i := 0) (show (["_law_e"] : List Str).Nodup by decide +kernel) rfl (Or.inl rfl) (Or.inr rfl))) (fun _ _ _ _ => rifs_nil) (fun _ _ _ _ => (re_fldX T.x (re_var 0)))) ra_nil)) (re_cb (c_reprE hr) T.n_repr b_repr (ra_cons (re_op (o_mulL false) (re_lst false (ra_cons (re_var 3) ra_nil)) re_int) ra_nil)))))) (rss_one (rs_ret re_bl)) rss_nil)
   (rss_cons (rs_set (i := 10) sclaw.nd rfl (Or.inl rfl) (re_makeX ciMannerError (hr.mono (by decide)) (ra_cons re_str ra_nil)))
   (rss_one (rs_ret (re_and (re_cb (c_isx T.x) T.n_isinstance b_isinstance (ra_cons (re_var 10) (ra_cons (re_bltn T.n_ValueError PyProof.Rows.Boot.«ValueError») ra_nil))) (re_one (re_cmp (o_notin (u65 hr)) re_bl (re_c c_law_kinds (hr.mono (by decide)) (ra_cons (re_var 10) ra_nil))))))))))))))))))))
end
end Ln
namespace Ln
open PySem L2 PF
theorem bd1 {x : Str} {st : Stmt} {p0 : Str} (h : ∀ (kV doc pm : Value) (an : Option Addr) (cdv ct a0 : Value), bindArgs (PySem.W.fnOf x x (defArgs st) (defBody st) (defScope st) .none kV doc pm an cdv ct) ⟨[a0], []⟩ = pure (([p0] : List Str).zip [a0])) : ∀ (kV doc pm : Value) (an : Option Addr) (cdv ct : Value) (us : List Value), us.length = ([p0] : List Str).length -> bindArgs (PySem.W.fnOf x x (defArgs st) (defBody st) (defScope st) .none kV doc pm an cdv ct) ⟨us, []⟩ = pure (([p0] : List Str).zip us) :=
 fun kV doc pm an cdv ct us hl => match us, hl with | [a0], _ => h kV doc pm an cdv ct a0
theorem bd2 {x : Str} {st : Stmt} {p0 p1 : Str} (h : ∀ (kV doc pm : Value) (an : Option Addr) (cdv ct a0 a1 : Value), bindArgs (PySem.W.fnOf x x (defArgs st) (defBody st) (defScope st) .none kV doc pm an cdv ct) ⟨[a0, a1], []⟩ = pure (([p0, p1] : List Str).zip [a0, a1])) : ∀ (kV doc pm : Value) (an : Option Addr) (cdv ct : Value) (us : List Value), us.length = ([p0, p1] : List Str).length -> bindArgs (PySem.W.fnOf x x (defArgs st) (defBody st) (defScope st) .none kV doc pm an cdv ct) ⟨us, []⟩ = pure (([p0, p1] : List Str).zip us) :=
 fun kV doc pm an cdv ct us hl => match us, hl with | [a0, a1], _ => h kV doc pm an cdv ct a0 a1
theorem bx2 {x y : Str} {st : Stmt} {p0 p1 : Str} (h : ∀ (kV doc pm : Value) (an : Option Addr) (cdv ct a0 a1 : Value), bindArgs (PySem.W.fnOf x y (defArgs st) (defBody st) (defScope st) .none kV doc pm an cdv ct) ⟨[a0, a1], []⟩ = pure (([p0, p1] : List Str).zip [a0, a1])) : ∀ (kV doc pm : Value) (an : Option Addr) (cdv ct : Value) (us : List Value), us.length = ([p0, p1] : List Str).length -> bindArgs (PySem.W.fnOf x y (defArgs st) (defBody st) (defScope st) .none kV doc pm an cdv ct) ⟨us, []⟩ = pure (([p0, p1] : List Str).zip us) :=
 fun kV doc pm an cdv ct us hl => match us, hl with | [a0, a1], _ => h kV doc pm an cdv ct a0 a1
theorem bx3 {x y : Str} {st : Stmt} {p0 p1 p2 : Str} (h : ∀ (kV doc pm : Value) (an : Option Addr) (cdv ct a0 a1 a2 : Value), bindArgs (PySem.W.fnOf x y (defArgs st) (defBody st) (defScope st) .none kV doc pm an cdv ct) ⟨[a0, a1, a2], []⟩ = pure (([p0, p1, p2] : List Str).zip [a0, a1, a2])) : ∀ (kV doc pm : Value) (an : Option Addr) (cdv ct : Value) (us : List Value), us.length = ([p0, p1, p2] : List Str).length -> bindArgs (PySem.W.fnOf x y (defArgs st) (defBody st) (defScope st) .none kV doc pm an cdv ct) ⟨us, []⟩ = pure (([p0, p1, p2] : List Str).zip us) :=
 fun kV doc pm an cdv ct us hl => match us, hl with | [a0, a1, a2], _ => h kV doc pm an cdv ct a0 a1 a2
theorem has_mk {K : PySem.W.Frag} {h : Heap} {mg : Str -> Option Value} (X : K.In h) (G : h.Ns mainGlobals mg) {x : Str} {st : Stmt} {ps : List Str} {f : Addr} {od an : Option Addr} {sl : Array (Option Value)} {oc kV dc pm cd ct : Value}
  (a : PySem.W.nsIn K mainGlobals x = some (some (.ref f))) (l : K.lookup f = some ⟨oc, od, .func (PySem.W.fnOf x x (defArgs st) (defBody st) (defScope st) .none kV dc pm an cd ct), sl⟩) (c : PySem.W.codeIn K cd x = true) (k : PySem.W.keepIn K (.ref f) = true)
  (b : ∀ (kV doc pm : Value) (an : Option Addr) (cdv ct : Value) (us : List Value), us.length = ps.length -> bindArgs (PySem.W.fnOf x x (defArgs st) (defBody st) (defScope st) .none kV doc pm an cdv ct) ⟨us, []⟩ = pure (ps.zip us)) : Has K mg x st ps :=
 ⟨f, _, fun_mk (st := st) l c k, PySem.W.mg_of X G a, (fun_mk (st := st) l c k).binds b⟩
theorem all_mk {l : PySem.W.OpenLaw} {w : World} {K : PySem.W.Frag} {h : Heap} {mg : Str -> Option Value} {fa f0 f1 f2 f3 : Addr} {od0 an0 od1 an1 od2 an2 od3 an3 : Option Addr} {sl0 sl1 sl2 sl3 : Array (Option Value)} {oc0 kV0 dc0 pm0 cd0 ct0 oc1 kV1 dc1 pm1 cd1 ct1 oc2 kV2 dc2 pm2 cd2 ct2 oc3 kV3 dc3 pm3 cd3 ct3 : Value} {xc0 xc1 xc2 xc3 xc4 xc5 xc6 xc7 xc8 xc9 xc10 xc11 xf0 xf1 xf2 xf3 xf4 xf5 xf6 xf7 xf8 xf9 : Addr} {xod0 xan0 xod1 xan1 xod2 xan2 xod3 xan3 xod4 xan4 xod5 xan5 xod6 xan6 xod7 xan7 xod8 xan8 xod9 xan9 : Option Addr} {xsl0 xsl1 xsl2 xsl3 xsl4 xsl5 xsl6 xsl7 xsl8 xsl9 : Array (Option Value)} {xoc0 xkV0 xdc0 xpm0 xcd0 xct0 xoc1 xkV1 xdc1 xpm1 xcd1 xct1 xoc2 xkV2 xdc2 xpm2 xcd2 xct2 xoc3 xkV3 xdc3 xpm3 xcd3 xct3 xoc4 xkV4 xdc4 xpm4 xcd4 xct4 xoc5 xkV5 xdc5 xpm5 xcd5 xct5 xoc6 xkV6 xdc6 xpm6 xcd6 xct6 xoc7 xkV7 xdc7 xpm7 xcd7 xct7 xoc8 xkV8 xdc8 xpm8 xcd8 xct8 xoc9 xkV9 xdc9 xpm9 xcd9 xct9 : Value} (X : K.In h) (G : h.Ns mainGlobals mg) (hfa : mg "law" = some (.ref fa))
  (X0 : XC K "MannerError" xc0 xf0 EX.bmV xfl)
  (XL0 : K.lookup xf0 = some ⟨xoc0, xod0, .func (PySem.W.fnOf "__init__" "MannerError.__init__" (defArgs s_iMannerError) (defBody s_iMannerError) (defScope s_iMannerError) .none xkV0 xdc0 xpm0 xan0 xcd0 xct0), xsl0⟩) (XD0 : PySem.W.codeIn K xcd0 "MannerError.__init__" = true)
  (X1 : XC K "NoNet" xc1 xf1 (.ref xc0 :: EX.bmV) xfl)
  (XL1 : K.lookup xf1 = some ⟨xoc1, xod1, .func (PySem.W.fnOf "__init__" "NoNet.__init__" (defArgs s_iNoNet) (defBody s_iNoNet) (defScope s_iNoNet) .none xkV1 xdc1 xpm1 xan1 xcd1 xct1), xsl1⟩) (XD1 : PySem.W.codeIn K xcd1 "NoNet.__init__" = true)
  (X2 : XC K "NoText" xc2 xf2 (.ref xc0 :: EX.bmV) xfl)
  (XL2 : K.lookup xf2 = some ⟨xoc2, xod2, .func (PySem.W.fnOf "__init__" "NoText.__init__" (defArgs s_iNoText) (defBody s_iNoText) (defScope s_iNoText) .none xkV2 xdc2 xpm2 xan2 xcd2 xct2), xsl2⟩) (XD2 : PySem.W.codeIn K xcd2 "NoText.__init__" = true)
  (X3 : XC K "NoMoment" xc3 xf3 (.ref xc0 :: EX.bmV) xfl)
  (XL3 : K.lookup xf3 = some ⟨xoc3, xod3, .func (PySem.W.fnOf "__init__" "NoMoment.__init__" (defArgs s_iNoMoment) (defBody s_iNoMoment) (defScope s_iNoMoment) .none xkV3 xdc3 xpm3 xan3 xcd3 xct3), xsl3⟩) (XD3 : PySem.W.codeIn K xcd3 "NoMoment.__init__" = true)
  (X4 : XC K "TooMany" xc4 xf4 (.ref xc0 :: EX.bmV) xfl)
  (XL4 : K.lookup xf4 = some ⟨xoc4, xod4, .func (PySem.W.fnOf "__init__" "TooMany.__init__" (defArgs s_iTooMany) (defBody s_iTooMany) (defScope s_iTooMany) .none xkV4 xdc4 xpm4 xan4 xcd4 xct4), xsl4⟩) (XD4 : PySem.W.codeIn K xcd4 "TooMany.__init__" = true)
  (X5 : XC K "NoJoin" xc5 xf5 (.ref xc0 :: EX.bmV) xfl)
  (XL5 : K.lookup xf5 = some ⟨xoc5, xod5, .func (PySem.W.fnOf "__init__" "NoJoin.__init__" (defArgs s_iNoJoin) (defBody s_iNoJoin) (defScope s_iNoJoin) .none xkV5 xdc5 xpm5 xan5 xcd5 xct5), xsl5⟩) (XD5 : PySem.W.codeIn K xcd5 "NoJoin.__init__" = true)
  (X6 : XC K "NoAlike" xc6 xf6 (.ref xc0 :: EX.bmV) xfl)
  (XL6 : K.lookup xf6 = some ⟨xoc6, xod6, .func (PySem.W.fnOf "__init__" "NoAlike.__init__" (defArgs s_iNoAlike) (defBody s_iNoAlike) (defScope s_iNoAlike) .none xkV6 xdc6 xpm6 xan6 xcd6 xct6), xsl6⟩) (XD6 : PySem.W.codeIn K xcd6 "NoAlike.__init__" = true)
  (X7 : XC K "NoLeast" xc7 xf7 (.ref xc0 :: EX.bmV) xfl)
  (XL7 : K.lookup xf7 = some ⟨xoc7, xod7, .func (PySem.W.fnOf "__init__" "NoLeast.__init__" (defArgs s_iNoLeast) (defBody s_iNoLeast) (defScope s_iNoLeast) .none xkV7 xdc7 xpm7 xan7 xcd7 xct7), xsl7⟩) (XD7 : PySem.W.codeIn K xcd7 "NoLeast.__init__" = true)
  (X8 : XC K "NoWish" xc8 xf8 (.ref xc0 :: EX.bmV) xfl)
  (XL8 : K.lookup xf8 = some ⟨xoc8, xod8, .func (PySem.W.fnOf "__init__" "NoWish.__init__" (defArgs s_iNoWish) (defBody s_iNoWish) (defScope s_iNoWish) .none xkV8 xdc8 xpm8 xan8 xcd8 xct8), xsl8⟩) (XD8 : PySem.W.codeIn K xcd8 "NoWish.__init__" = true)
  (X9 : XC K "NoTable" xc9 xf9 (.ref xc0 :: EX.bmV) xfl)
  (XL9 : K.lookup xf9 = some ⟨xoc9, xod9, .func (PySem.W.fnOf "__init__" "NoTable.__init__" (defArgs s_iNoTable) (defBody s_iNoTable) (defScope s_iNoTable) .none xkV9 xdc9 xpm9 xan9 xcd9 xct9), xsl9⟩) (XD9 : PySem.W.codeIn K xcd9 "NoTable.__init__" = true)
  (X10 : XC K "NoBack" xc10 xf0 (.ref xc0 :: EX.bmV) xfl)
  (X11 : XC K "NoRow" xc11 xf0 (.ref xc0 :: EX.bmV) xfl)
  (ND : (xc0 :: List.map (fun p : Str × Addr => p.2) [("NoNet", xc1), ("NoText", xc2), ("NoMoment", xc3), ("TooMany", xc4), ("NoJoin", xc5), ("NoAlike", xc6), ("NoLeast", xc7), ("NoWish", xc8), ("NoTable", xc9), ("NoBack", xc10), ("NoRow", xc11)]).Nodup)
  (a0 : PySem.W.nsIn K mainGlobals "_law_feed" = some (some (.ref f0))) (l0 : K.lookup f0 = some ⟨oc0, od0, .func (PySem.W.fnOf "_law_feed" "_law_feed" (defArgs s__law_feed) (defBody s__law_feed) (defScope s__law_feed) .none kV0 dc0 pm0 an0 cd0 ct0), sl0⟩) (c0 : PySem.W.codeIn K cd0 "_law_feed" = true) (k0 : PySem.W.keepIn K (.ref f0) = true)
  (a1 : PySem.W.nsIn K mainGlobals "_law_draw" = some (some (.ref f1))) (l1 : K.lookup f1 = some ⟨oc1, od1, .func (PySem.W.fnOf "_law_draw" "_law_draw" (defArgs s__law_draw) (defBody s__law_draw) (defScope s__law_draw) .none kV1 dc1 pm1 an1 cd1 ct1), sl1⟩) (c1 : PySem.W.codeIn K cd1 "_law_draw" = true) (k1 : PySem.W.keepIn K (.ref f1) = true)
  (a2 : PySem.W.nsIn K mainGlobals "_law_kinds" = some (some (.ref f2))) (l2 : K.lookup f2 = some ⟨oc2, od2, .func (PySem.W.fnOf "_law_kinds" "_law_kinds" (defArgs s__law_kinds) (defBody s__law_kinds) (defScope s__law_kinds) .none kV2 dc2 pm2 an2 cd2 ct2), sl2⟩) (c2 : PySem.W.codeIn K cd2 "_law_kinds" = true) (k2 : PySem.W.keepIn K (.ref f2) = true)
  (a3 : PySem.W.nsIn K mainGlobals "law" = some (some (.ref f3))) (l3 : K.lookup f3 = some ⟨oc3, od3, .func (PySem.W.fnOf "law" "law" (defArgs s_law) (defBody s_law) (defScope s_law) .none kV3 dc3 pm3 an3 cd3 ct3), sl3⟩) (c3 : PySem.W.codeIn K cd3 "law" = true) (k3 : PySem.W.keepIn K (.ref f3) = true)
  (z0 : PySem.W.nsIn K mainGlobals "len" = some none)
  (z1 : PySem.W.nsIn K mainGlobals "repr" = some none)
  (z2 : PySem.W.nsIn K mainGlobals "list" = some none)
  (z3 : PySem.W.nsIn K mainGlobals "tuple" = some none)
  (z4 : PySem.W.nsIn K mainGlobals "range" = some none)
  (z5 : PySem.W.nsIn K mainGlobals "isinstance" = some none)
  (z6 : PySem.W.nsIn K mainGlobals "ValueError" = some none) :
  ∃ fd : FuncData, (∀ (s : Shared) (v : Value), BindsTo s fd ⟨[v], []⟩ [("_law_script", v)]) /\ ∀ base : Heap, K.In base -> base.Ns mainGlobals mg -> FnOk l.prog w K mg base CX0 5 fa fd ["_law_script"] (spLaw K) := by
 have e := hfa.symm.trans (PySem.W.mg_of X G a3)
 cases e
 have T : Txt0 K mg := ⟨xt_of (L := [("NoNet", xc1), ("NoText", xc2), ("NoMoment", xc3), ("TooMany", xc4), ("NoJoin", xc5), ("NoAlike", xc6), ("NoLeast", xc7), ("NoWish", xc8), ("NoTable", xc9), ("NoBack", xc10), ("NoRow", xc11)]) (fun C Ca e => PySem.W.mg_of X G e) X0 (.cons X1 (.cons X2 (.cons X3 (.cons X4 (.cons X5 (.cons X6 (.cons X7 (.cons X8 (.cons X9 (.cons X10 (.cons X11 .nil))))))))))) ND,
  hasX_mk (fun C Ca e => PySem.W.mg_of X G e) X0 XL0 XD0 (bx2 fun _ _ _ _ _ _ _ _ => rfl),
  hasX_mk (fun C Ca e => PySem.W.mg_of X G e) X1 XL1 XD1 (bx3 fun _ _ _ _ _ _ _ _ _ => rfl),
  hasX_mk (fun C Ca e => PySem.W.mg_of X G e) X2 XL2 XD2 (bx2 fun _ _ _ _ _ _ _ _ => rfl),
  hasX_mk (fun C Ca e => PySem.W.mg_of X G e) X3 XL3 XD3 (bx2 fun _ _ _ _ _ _ _ _ => rfl),
  hasX_mk (fun C Ca e => PySem.W.mg_of X G e) X4 XL4 XD4 (bx2 fun _ _ _ _ _ _ _ _ => rfl),
  hasX_mk (fun C Ca e => PySem.W.mg_of X G e) X5 XL5 XD5 (bx2 fun _ _ _ _ _ _ _ _ => rfl),
  hasX_mk (fun C Ca e => PySem.W.mg_of X G e) X6 XL6 XD6 (bx3 fun _ _ _ _ _ _ _ _ _ => rfl),
  hasX_mk (fun C Ca e => PySem.W.mg_of X G e) X7 XL7 XD7 (bx3 fun _ _ _ _ _ _ _ _ _ => rfl),
  hasX_mk (fun C Ca e => PySem.W.mg_of X G e) X8 XL8 XD8 (bx3 fun _ _ _ _ _ _ _ _ _ => rfl),
  hasX_mk (fun C Ca e => PySem.W.mg_of X G e) X9 XL9 XD9 (bx2 fun _ _ _ _ _ _ _ _ => rfl),
  hasX_mk (fun C Ca e => PySem.W.mg_of X G e) X10 XL0 XD0 (bx2 fun _ _ _ _ _ _ _ _ => rfl),
  hasX_mk (fun C Ca e => PySem.W.mg_of X G e) X11 XL0 XD0 (bx2 fun _ _ _ _ _ _ _ _ => rfl),
  has_mk X G a0 l0 c0 k0 (bd1 fun _ _ _ _ _ _ _ => rfl),
  has_mk X G a1 l1 c1 k1 (bd2 fun _ _ _ _ _ _ _ _ => rfl),
  has_mk X G a2 l2 c2 k2 (bd1 fun _ _ _ _ _ _ _ => rfl),
  has_mk X G a3 l3 c3 k3 (bd1 fun _ _ _ _ _ _ _ => rfl),
  PySem.W.mg_none_of X G z0,
  PySem.W.mg_none_of X G z1,
  PySem.W.mg_none_of X G z2,
  PySem.W.mg_none_of X G z3,
  PySem.W.mg_none_of X G z4,
  PySem.W.mg_none_of X G z5,
  PySem.W.mg_none_of X G z6⟩
 refine ⟨PySem.W.fnOf "law" "law" (defArgs s_law) (defBody s_law) (defScope s_law) .none kV3 dc3 pm3 an3 cd3 ct3, fun s v => .of_eq rfl, fun base _ _ => ?_⟩
 exact law_of (fnlaw (fun_mk (st := s_law) l3 c3 k3) T) fun ns _ => law_true ns
theorem walk {l : PySem.W.OpenLaw} {q : Program} {loose : List Str} {XP : (Str -> Option Value) -> Heap -> Prop} {YP : World -> Heap -> Prop} {d : DefRec} {K : Params -> PySem.W.Frag} (hn : l.most = some 63) (hdf : d.params.defaults = [])
  (hY : ∀ (w : World) (h : Heap), YP w h -> (K w.params).In h)
  (F : ∀ (w : World) (mg : Str -> Option Value) (fa : Addr) (h : Heap), (K w.params).In h -> h.Ns mainGlobals mg -> mg d.name = some (.ref fa) ->
   ∃ fd : FuncData, (∀ (s : Shared) (u : Value), BindsTo s fd ⟨[u], []⟩ [("_law_script", u)]) /\ ∀ base : Heap, (K w.params).In base -> base.Ns mainGlobals mg -> FnOk l.prog w (K w.params) mg base CX0 5 fa fd ["_law_script"] (spLaw (K w.params))) :
  PySem.W.WalkO q loose XP YP l.row.toRowW d [] (fun f vs => PySem.call f vs) :=
 L2.walk_of (n := 63) (k := 5) (x := "_law_script") (CX := fun _ => CX0) (sp := fun w => spLaw (K w.params)) hn (by decide) hdf ⟨rfl, by decide, by decide, rfl⟩ hY F (fun _ _ a ns hl _ hS => ⟨a, ns, rfl, hS, hl, fun _ => rfl⟩) fun _ _ _ _ _ z => z
end Ln
open PySem PySem.W PyProof.Rows
set_option maxRecDepth 100000 in
set_option maxHeartbeats 0 in
theorem PySem.Challenge.cw_mannerports_k18_refusals_by_hand_holds : PySem.Challenge.rw_mannerports_k18_refusals_by_hand.Holds := by
 w_on; o_law; k_head; (case hw => w_witness2)
 k_fill
 refine Ln.walk (l := PySem.Challenge.rw_mannerports_k18_refusals_by_hand) rfl rfl (fun w h Y => PySem.W.kIn_of Y) ?F
 case F =>
  intro w mg fa h KX G hmg
  refine' Ln.all_mk KX G hmg ?X0 ?XL0 ?XD0 ?X1 ?XL1 ?XD1 ?X2 ?XL2 ?XD2 ?X3 ?XL3 ?XD3 ?X4 ?XL4 ?XD4 ?X5 ?XL5 ?XD5 ?X6 ?XL6 ?XD6 ?X7 ?XL7 ?XD7 ?X8 ?XL8 ?XD8 ?X9 ?XL9 ?XD9 ?X10 ?X11 ?ND ?a0 ?l0 ?c0 ?k0 ?a1 ?l1 ?c1 ?k1 ?a2 ?l2 ?c2 ?k2 ?a3 ?l3 ?c3 ?k3 ?z0 ?z1 ?z2 ?z3 ?z4 ?z5 ?z6
  (case X0 => refine' PF.xc_mk ?a ?l ?av ?ga ?gt ?sa ?ca ?cg ?ct ?i ?n ?k ?r ?m ?sg ?kf ?h0 ?h1 ?h2 ?h3; (case a => k_is); (case l => k_is); (case av => exact .base); (case ga => k_is); (case gt => k_is); (case sa => k_is); (case ca => k_is); (case cg => k_is); (case ct => k_is); (case i => k_is); (case n => k_is); (case k => k_is); (case r => k_is); (case m => k_is); (case sg => k_is); (case kf => k_is); (case h0 => k_is); (case h1 => k_is); (case h2 => k_is); (case h3 => k_is))
  (case XL0 => k_is)
  (case XD0 => k_is)
  (case X1 => refine' PF.xc_mk ?a ?l ?av ?ga ?gt ?sa ?ca ?cg ?ct ?i ?n ?k ?r ?m ?sg ?kf ?h0 ?h1 ?h2 ?h3; (case a => k_is); (case l => k_is); (case av => exact .own _ .base); (case ga => k_is); (case gt => k_is); (case sa => k_is); (case ca => k_is); (case cg => k_is); (case ct => k_is); (case i => k_is); (case n => k_is); (case k => k_is); (case r => k_is); (case m => k_is); (case sg => k_is); (case kf => k_is); (case h0 => k_is); (case h1 => k_is); (case h2 => k_is); (case h3 => k_is))
  (case XL1 => k_is)
  (case XD1 => k_is)
  (case X2 => refine' PF.xc_mk ?a ?l ?av ?ga ?gt ?sa ?ca ?cg ?ct ?i ?n ?k ?r ?m ?sg ?kf ?h0 ?h1 ?h2 ?h3; (case a => k_is); (case l => k_is); (case av => exact .own _ .base); (case ga => k_is); (case gt => k_is); (case sa => k_is); (case ca => k_is); (case cg => k_is); (case ct => k_is); (case i => k_is); (case n => k_is); (case k => k_is); (case r => k_is); (case m => k_is); (case sg => k_is); (case kf => k_is); (case h0 => k_is); (case h1 => k_is); (case h2 => k_is); (case h3 => k_is))
  (case XL2 => k_is)
  (case XD2 => k_is)
  (case X3 => refine' PF.xc_mk ?a ?l ?av ?ga ?gt ?sa ?ca ?cg ?ct ?i ?n ?k ?r ?m ?sg ?kf ?h0 ?h1 ?h2 ?h3; (case a => k_is); (case l => k_is); (case av => exact .own _ .base); (case ga => k_is); (case gt => k_is); (case sa => k_is); (case ca => k_is); (case cg => k_is); (case ct => k_is); (case i => k_is); (case n => k_is); (case k => k_is); (case r => k_is); (case m => k_is); (case sg => k_is); (case kf => k_is); (case h0 => k_is); (case h1 => k_is); (case h2 => k_is); (case h3 => k_is))
  (case XL3 => k_is)
  (case XD3 => k_is)
  (case X4 => refine' PF.xc_mk ?a ?l ?av ?ga ?gt ?sa ?ca ?cg ?ct ?i ?n ?k ?r ?m ?sg ?kf ?h0 ?h1 ?h2 ?h3; (case a => k_is); (case l => k_is); (case av => exact .own _ .base); (case ga => k_is); (case gt => k_is); (case sa => k_is); (case ca => k_is); (case cg => k_is); (case ct => k_is); (case i => k_is); (case n => k_is); (case k => k_is); (case r => k_is); (case m => k_is); (case sg => k_is); (case kf => k_is); (case h0 => k_is); (case h1 => k_is); (case h2 => k_is); (case h3 => k_is))
  (case XL4 => k_is)
  (case XD4 => k_is)
  (case X5 => refine' PF.xc_mk ?a ?l ?av ?ga ?gt ?sa ?ca ?cg ?ct ?i ?n ?k ?r ?m ?sg ?kf ?h0 ?h1 ?h2 ?h3; (case a => k_is); (case l => k_is); (case av => exact .own _ .base); (case ga => k_is); (case gt => k_is); (case sa => k_is); (case ca => k_is); (case cg => k_is); (case ct => k_is); (case i => k_is); (case n => k_is); (case k => k_is); (case r => k_is); (case m => k_is); (case sg => k_is); (case kf => k_is); (case h0 => k_is); (case h1 => k_is); (case h2 => k_is); (case h3 => k_is))
  (case XL5 => k_is)
  (case XD5 => k_is)
  (case X6 => refine' PF.xc_mk ?a ?l ?av ?ga ?gt ?sa ?ca ?cg ?ct ?i ?n ?k ?r ?m ?sg ?kf ?h0 ?h1 ?h2 ?h3; (case a => k_is); (case l => k_is); (case av => exact .own _ .base); (case ga => k_is); (case gt => k_is); (case sa => k_is); (case ca => k_is); (case cg => k_is); (case ct => k_is); (case i => k_is); (case n => k_is); (case k => k_is); (case r => k_is); (case m => k_is); (case sg => k_is); (case kf => k_is); (case h0 => k_is); (case h1 => k_is); (case h2 => k_is); (case h3 => k_is))
  (case XL6 => k_is)
  (case XD6 => k_is)
  (case X7 => refine' PF.xc_mk ?a ?l ?av ?ga ?gt ?sa ?ca ?cg ?ct ?i ?n ?k ?r ?m ?sg ?kf ?h0 ?h1 ?h2 ?h3; (case a => k_is); (case l => k_is); (case av => exact .own _ .base); (case ga => k_is); (case gt => k_is); (case sa => k_is); (case ca => k_is); (case cg => k_is); (case ct => k_is); (case i => k_is); (case n => k_is); (case k => k_is); (case r => k_is); (case m => k_is); (case sg => k_is); (case kf => k_is); (case h0 => k_is); (case h1 => k_is); (case h2 => k_is); (case h3 => k_is))
  (case XL7 => k_is)
  (case XD7 => k_is)
  (case X8 => refine' PF.xc_mk ?a ?l ?av ?ga ?gt ?sa ?ca ?cg ?ct ?i ?n ?k ?r ?m ?sg ?kf ?h0 ?h1 ?h2 ?h3; (case a => k_is); (case l => k_is); (case av => exact .own _ .base); (case ga => k_is); (case gt => k_is); (case sa => k_is); (case ca => k_is); (case cg => k_is); (case ct => k_is); (case i => k_is); (case n => k_is); (case k => k_is); (case r => k_is); (case m => k_is); (case sg => k_is); (case kf => k_is); (case h0 => k_is); (case h1 => k_is); (case h2 => k_is); (case h3 => k_is))
  (case XL8 => k_is)
  (case XD8 => k_is)
  (case X9 => refine' PF.xc_mk ?a ?l ?av ?ga ?gt ?sa ?ca ?cg ?ct ?i ?n ?k ?r ?m ?sg ?kf ?h0 ?h1 ?h2 ?h3; (case a => k_is); (case l => k_is); (case av => exact .own _ .base); (case ga => k_is); (case gt => k_is); (case sa => k_is); (case ca => k_is); (case cg => k_is); (case ct => k_is); (case i => k_is); (case n => k_is); (case k => k_is); (case r => k_is); (case m => k_is); (case sg => k_is); (case kf => k_is); (case h0 => k_is); (case h1 => k_is); (case h2 => k_is); (case h3 => k_is))
  (case XL9 => k_is)
  (case XD9 => k_is)
  (case X10 => refine' PF.xc_mk ?a ?l ?av ?ga ?gt ?sa ?ca ?cg ?ct ?i ?n ?k ?r ?m ?sg ?kf ?h0 ?h1 ?h2 ?h3; (case a => k_is); (case l => k_is); (case av => exact .own _ .base); (case ga => k_is); (case gt => k_is); (case sa => k_is); (case ca => k_is); (case cg => k_is); (case ct => k_is); (case i => k_is); (case n => k_is); (case k => k_is); (case r => k_is); (case m => k_is); (case sg => k_is); (case kf => k_is); (case h0 => k_is); (case h1 => k_is); (case h2 => k_is); (case h3 => k_is))
  (case X11 => refine' PF.xc_mk ?a ?l ?av ?ga ?gt ?sa ?ca ?cg ?ct ?i ?n ?k ?r ?m ?sg ?kf ?h0 ?h1 ?h2 ?h3; (case a => k_is); (case l => k_is); (case av => exact .own _ .base); (case ga => k_is); (case gt => k_is); (case sa => k_is); (case ca => k_is); (case cg => k_is); (case ct => k_is); (case i => k_is); (case n => k_is); (case k => k_is); (case r => k_is); (case m => k_is); (case sg => k_is); (case kf => k_is); (case h0 => k_is); (case h1 => k_is); (case h2 => k_is); (case h3 => k_is))
  (case ND => exact (by decide))
  (case a0 => k_is)
  (case l0 => k_is)
  (case c0 => k_is)
  (case k0 => k_is)
  (case a1 => k_is)
  (case l1 => k_is)
  (case c1 => k_is)
  (case k1 => k_is)
  (case a2 => k_is)
  (case l2 => k_is)
  (case c2 => k_is)
  (case k2 => k_is)
  (case a3 => k_is)
  (case l3 => k_is)
  (case c3 => k_is)
  (case k3 => k_is)
  (case z0 => k_is)
  (case z1 => k_is)
  (case z2 => k_is)
  (case z3 => k_is)
  (case z4 => k_is)
  (case z5 => k_is)
  (case z6 => k_is)
