import PyProof.Rows.All
import Wide.All
import OpenK.AllK
import Wide.FinOn
import Lean
import PyProof.EqAt
import PyProof.EqKinds
import PyProof.TupleCall
import PyProof.NeKinds
import PyProof.Rows.SetFrom
import PyProof.WalksMore
import KE.KDictSum
import PyProof.AttrMissHeap
import PyProof.P3Eq
import PyProof.NeData
import PySem.SetTable
import PyProof.SetScanFacts
import PyProof.ConsumeWalk
import PyProof.ZipIter
import PyProof.Rows.TupAdd
import PyProof.Rows.IntBool
import PyProof.SliceStr2
import PyProof.StrBlockI
import KE.KTab
import KE.KIsAll
import OpenK.KCls
import OpenK.KMore
import PyProof.ExcInit
import PyProof.ExcBaseAll.ValueError
import PyProof.ExcAttrAll.ValueError
import PyProof.InstStore
import PyProof.InstStoreFacts
import PyProof.StationsW
import PyProof.PassesOwn
import PyProof.RulesAs
import KE.KTryMore
import PyProof.NsDelKeeps
import KE.KSortAsk
import KE.KSortTup
import PyProof.TupleOfSeq
import PyProof.FString5
import PyProof.StrWalks
import PyProof.CallStr
import PyProof.Conv_int_bool
import PyProof.StrCalls
import PyProof.DictWalks
import PyProof.Rows.TupDisplay
import PyProof.DictTruth
import PyProof.ListMulAny
import PyProof.FactsAll.tuple_2
import PyProof.ListRange
import KE.KxMul
import PyProof.FactsAll.dict_1
import PyProof.FactsAll.subtypes_4
import PyProof.FactsAll.subtypes_3
import PyProof.FactsAll.tuple_0
import PyProof.SumWalk
import PyProof.StrBlockG
import PyProof.StrCalls2
import KE.KIntText
import PyProof.CollectWalk
import PyProof.TupleOfGen
import PyProof.EnumMake
import PyProof.StrLawsReplace
import PyProof.Rows.ReprOcc
import PySem.Challenge.RW_mannerports_k01_ports_and_parts
import KE.KTabLook
set_option Elab.async false
set_option linter.all false
set_option bootstrap.genMatcherCode false
set_option genSizeOfSpec false
set_option maxRecDepth 100000
set_option maxHeartbeats 4000001
variable{xs:List mM}{a b:ej}{A:mN}{E:dw -> f9 -> Prop}{s:f9}{h h':PySem.Heap}{P:md}{w:nj}{t' i:Nat}{ch:List ej}{e tg:jK}{M:PySem.Model}{u:dw}{Q:Unit -> f9 -> Prop}{pos:PySem.Pos}{pins:List (ej×PySem.Obj)}{K:am}
noncomputable section
open PySem renaming wpAny_bind -> ae,Value -> af,PyData -> ag,wpAny_pure -> ah,Shared -> ak,Program -> aT,mainGlobals -> aV,World -> aX,compareOp -> aY,wpAny_field -> a7,Around -> bj,bootBuiltins -> bo,wpAny_callSpecial?_slot -> br,wpAny_call_entry -> bu,wpAny_holding -> bC,wpAny_newObj_type -> bD,assignEach -> bF,scanBound -> bG,strKind -> bY,intKind -> bZ,wpAny_setField_rec -> ci,wpAny_setField -> cw,wpAny_rule -> cB,wpAny_truthy_bool -> cC,wpAny_loadPart_at -> cE,Builtin -> cJ,wpAny_mono -> cL,SetTable -> cR,ReadsAll -> cY,wpAny_seqItems -> dm,Value -> dw,Reads -> dz,codeAny_builtin -> dC,wpAny_setState_of -> dE,mem_of_lookup -> dL,wpAny_isSubtype_exc -> dM,codeAny_mono -> dU,wpAny_specialOf -> dW,wpAny_attempt -> d7,foldedSetIterable -> d9,fits_of_scanBound -> ef,wpAny_pyIter_list -> eg,not_mem_of_deeper -> eh,Addr -> ej,wpAny_isInstance -> eG,FuncData -> eH,wpAny_typeOf -> eJ,wpAny_setEntries_of -> eN,wpAny_ite_false -> eZ,NameKind -> fg,excClassObj -> fk,Within -> fx,wpAny_callSpecialIfBoundUnlessNone?_slot -> fK,sysModules -> fM,checkBuiltinCall -> fP,wpAny_standAt -> fQ,behindInMarks -> fR,plainId_quiet -> fU,sliceBounds -> fX,wpAny_passesOwn -> fZ,Shared -> f9,swapsWith -> gf,wpAny_Call_Name_kw -> gg,IsPair -> gk,Scope -> gn,call_meets -> gu,wpAny_storeSet_of -> gG,IsPart -> gL,keywordEach -> gM,slicePicked -> gP,wpAny_onRaise -> gS,builtinLookup_eq_fast -> g6,pickOrder -> g9,wpAny_execs_nil -> hX,letOwnedTupleGo -> hZ,Result -> h8,typeIs_int -> ia,codeAny_call_builtin -> ic,wpAny_ite_split -> ie,wpAny_updateSeq_pair -> ij,callSpecialIfBoundUnlessNone? -> iq,GenState -> iz,ElemsOf -> iB,isSubtype_type -> iD,wpAny_fieldsOf -> iE,firstArgMember -> iF,isSubtype_stop -> iG,call_repr_slot -> iI,typeIs_none -> iL,wpAny_letGo -> iM,IsZip -> iN,Str -> iO,seqIndex? -> iS,wpAny_pyIter_tuple -> iV,setFlight -> iX,eqIsQuiet_byValue -> jC,wpAny_sequenceKey -> jG,Expr -> jK,wpAny_load -> jL,wpAny_call -> jM,wpAny_binaryOp_repeat_ref -> jS,wpAny_forIn_list -> jT,noFill_tuple_add -> jW,wpAny_comprehension_free -> jZ,setAddHashed -> kA,wpAny_askSetting -> kB,DictEntry -> kO,noteFrame -> kW,codeAny_of_tree -> kY,typeLookup_type -> kZ,getMethod -> lh,wpAny_pyNext_list_item -> lq,wpAny_pyNext_list_end -> lB,BindsTo -> lD,hashByValue_scannable -> lF,wpAny_runValue -> lH,wpAny_newTuple -> lL,IsEnum -> lO,wpAny_loadName_local -> lU,Operator -> lV,Program -> md,swapsWithSole -> mf,swappedStores -> mh,seq_tuple_add -> mi,evalPart_none -> ml,signature?_of -> mr,wpAny_handled -> ms,wpAny_loadName_cell -> mC,wpAt_of_wpAny -> mG,PyData -> mM,Around -> mN,Paired -> mO,lastMarks -> mP,concat_meets -> mR,seqIndex_neg -> mS,drawOrder -> mU,IsEnumOut -> m9,CmpOp -> nc,World -> nj,seqIndex_of -> nk,wpAny_of_eq -> nn,wpAny_throw -> np,richCompare -> nr,Moved -> nv,wpAny_loadPart' -> ny,SetTable -> nA,PassesOwn -> nB,Walks -> nD
open PySem.Heap renaming get?_push_of_some -> aj,lt_size -> ay,get?_push_size -> aA,size_push -> a9,SameBut -> bJ,get?_update_self -> bK,get?_update_other -> bO,get?_push_ne -> dH,ExtBut -> fj,size_update -> gX,get?_update_ne -> iw,update_setField_same -> jR,size_after_update -> lv
open PySem.W renaming Frag -> am,mg_none_of -> bf,nsIn -> bA,mg_of -> cF,findIn -> cG,kitOne -> cH,kia_one -> cI,fnOf -> cZ,keepIn -> df,clsIn -> eV,specialIn -> fq,codeIn -> fA,Looks -> fV,kas_place -> gj,kas_asc -> gz,kas_rev -> hV,kitCls -> iJ,typeIn -> iK,callWith_K -> iQ,mroIn -> i6,subIn -> jA,methodObj -> jE,kas_sort -> kE,instObj -> kQ,takesIn -> kR,OpenLaw -> kS,findCls -> lg,cellsFrom_some -> lr,lookIn -> lC,methodCall_KW -> lJ,exmOne -> lN,kas_desc -> l4,looks_clsIn -> mF,kas_tail3 -> mX,kas_descPart -> mY,kas_count -> mZ,kas_bin -> ni
open List renaming length_map -> ao,getElem?_eq_getElem -> ar,mem_cons -> aw,size_toArray -> ax,mem_cons_of_mem -> az,mem_cons_self -> aB,replicate -> aC,getElem?_eq_some_iff -> aE,all_eq_true -> aI,getElem?_map -> aL,map_cons -> aP,length_cons -> aQ,getElem?_set_ne -> a8,not_mem_nil -> bc,mem_singleton -> bd,range -> bn,getElem?_append_left -> bq,length_append -> bv,mem_of_getElem? -> bw,mem_map -> bB,getD_eq_getElem?_getD -> bH,mem_append -> bI,map -> bM,getElem?_set_self -> bN,mem_append_right -> bQ,mem_filter -> bU,length_take -> bX,contains_cons -> cf,append_nil -> cn,map_map -> cu,getElem?_append_right -> cv,mem_of_mem_take -> cx,getElem_mem -> cz,replicate_succ -> cA,cons_append -> cK,mem_of_mem_drop -> cN,append_assoc -> cQ,nil_append -> cV,getElem?_eq_none -> cX,pairwise_cons -> dt,length_filter_le -> du,getElem?_eq_none_iff -> dv,ext_getElem? -> dF,getElem?_set -> dG,flatten_cons -> dI,all_cons -> dJ,filter_eq_self -> dN,take_of_length_le -> dO,drop_eq_nil_of_le -> dP,map_nil -> dQ,nodup_cons -> dX,foldl_cons -> dY,length_nil -> dZ,sum_cons -> d8,drop_eq_getElem_cons -> eB,lookup -> eD,mem_range -> eF,length_drop -> eI,filterMap_cons -> eM,getElem?_range -> eO,getElem?_replicate -> eQ,getElem?_cons_succ -> eR,length_eq_zero_iff -> eS,filter_cons_of_neg -> eT,filter_cons_of_pos -> eU,reverse_cons -> fw,length_replicate -> fz,toArray -> fE,all_map -> fF,contains_iff_mem -> fG,mem_append_left -> fN,of_mem_zip -> f6,pairwise_iff_getElem -> f7,take_sublist -> gE,mapM_toArray -> gH,pairwise_map -> gI,findIdx?_eq_some_iff_getElem -> gN,mem_iff_getElem? -> hJ,take_append_drop -> hW,getElem_of_mem -> iu,drop_zero -> iH,mem_filterMap -> iP,zip_cons_cons -> iY,length_eraseIdx_of_lt -> i7,any_cons -> i8,any_eq_false -> jF,take_add_one -> jJ,findIdx?_eq_none_iff -> jO,length_filterMap_le -> kD,all_toArray -> kF,eq_of_mem_replicate -> kJ,eraseIdx_cons_succ -> kK,pairwise_singleton -> kM,forIn_cons -> kU,Perm -> lc,map_append -> lj,sum_replicate_nat -> ly,length_singleton -> lE,getElem?_toArray -> lI,perm_append_comm -> lR,set_append_left -> lY,pairwise_append -> l7,map_take -> mw,length_reverse -> mE,length_flatten -> mI,map_congr_left -> mJ,drop_succ_cons -> mK,Pairwise -> nC
open Bool renaming false_ne_true -> aq,and_eq_true -> aG,eq_iff_iff -> aW,false_eq_true -> cc,false_and -> fy,and_false -> gB,and_self -> gT,not_eq_true -> gW,or_true -> ii,true_and -> jB,or_eq_true -> kX,not_true -> me,or_false -> mo,and_true -> mB
open Nat renaming le_refl -> au,le_trans -> aH,ne_of_lt -> aR,lt_of_lt_of_le -> aU,zero_le -> cy,lt_succ_of_lt -> cD,le_of_not_lt -> cM,lt_irrefl -> cO,ne_of_gt -> dR,le_succ -> eE,lt_succ_self -> eL,le_of_eq -> fB,le_of_lt -> gc,lt_of_le_of_lt -> gi,add_assoc -> gQ,mul_lt_mul'' -> gY,not_lt -> jP,succ_le_succ -> jY,le_max_right -> kI,le_max_left -> lm,pow_le_pow_right -> l8,mul_le_mul_right -> l9,mul_le_mul_left -> mL,lt_trans -> mT
open PySem.PyData renaming int -> aD,str -> aF,depth -> aJ,eqv -> aM,depthAll -> aN,bulkAll -> aO,canLayAll0 -> bh,bulk -> bt,tuple -> bR,shown -> bS,showable -> bW,bool -> cj,shownAll -> cr,eqvAll -> c9,showableAll -> ff,leavesShort -> gm,canLay0 -> gA,shownKv_eq -> gJ,list -> lw,dict -> lz,leavesShortAll -> lS
open Array renaming length_toList -> aK,getElem?_toList -> bL,getElem?_eq_some_iff -> bP,getElem?_eq_getElem -> bV,getD -> gy,getElem?_eq_none -> gO,any_toList -> gV,perm_iff_toList_perm -> i9,toList_push -> jI,all_toList -> kG,mem_toList_iff -> lW,getElem_toList -> lX
open PySem.Value renaming ref -> aS,none -> aZ,type -> bE,int -> dq,bool -> fL,isInt -> fW,str -> gb,isStrOf -> gR,isInt_shape -> jD,notImplemented -> lZ
open PySem.Str renaming ofString -> bg
open PyProof.Rows renaming slot_tuple_getitem -> bz,callWith_type1 -> dS,AllBare -> gr,callWith_builtin1 -> h9,entry_tuple_getitem -> ir,slicePart_none -> iA,args_tuple_getitem -> iR,subscriptTail_builtinR -> lu,SortKind -> l6,tupleItemsOf_ -> mj,subscriptTail -> mn,listUpdate_at -> mz,IntsAre -> ng,seqEpoch_at -> nt
open Lean renaming mkIdent -> bT,TSyntax -> io
open PyProof.Rows.F renaming plain_set_update_loop -> b7,entry_set_update_loop -> c8
open PySem.Heap.SameBut renaming update -> b8,refl -> jH
open PySem.NameKind renaming free -> b9,cell -> fT
open PySem.Builtin.Slice renaming slicePlaces -> cb,sliceAdjust -> cT,sliceApplied -> fS,sliceFields -> jN
open PySem.SetTable renaming grown -> ck,below -> cP,sizeAbove -> iT,probe -> lP
open Option.some renaming inj -> cq,injEq -> ee
open PySem.Builtin.Tuple renaming tupleHashOf -> cS,tupleExact -> c7,tupleItemsOf -> d6
open PySem.Builtin.SmallTypes renaming nextOf -> cU,ownedTupleIsFree -> d5,ownedTupleHandOut -> gl
open Ne renaming symm -> cW
open PySem.Obj renaming mapFields -> de,mapSeq -> eA,data_mapFields -> eY,isFreed_of_fields -> hU,putSet -> ib
open PySem.Around renaming under_plainId -> dg,under -> jU
open Int renaming toNat_natCast -> dh
open PySem.Builtin.Str renaming strSliceIndices -> di,occurrences -> eP
open PySem.F renaming excBase_ValueError -> dj,called_set -> eK,slot_enumerate_next -> fH,slot_NoneType_hash -> fJ,args_tuple_add_2 -> gh,entry_tuple_add -> gC,slot_tuple_hash -> gD,slot_tuple_add -> gK,slot_zip_next -> ik,slot_int_rmul -> il,plain_extend_loop -> jQ,slot_tuple_mul -> kH,plain_list_iadd -> kL,args_enumerate_next_1 -> kN,slot_tuple_lt -> ll,entry_enumerate_next -> lA,plain_set_new -> lG
open False renaming elim -> dA
open Or renaming inl -> dB,inr -> fD
open True renaming intro -> ek
open PySem.Challenge renaming rw_mannerports_k01_ports_and_parts -> eC
open List.cons renaming injEq -> eW
open ForInStep renaming yield -> eX
open PySem.Builtin.List renaming listExtendWith -> fI,listLengthHint -> iW,listSameRef -> kC
open Option renaming bind_some -> fO,map_some -> ig,isSome_iff_exists -> jV,getD_none -> jX,bind_eq_bind -> mD
open PySem.ReprEntriesK renaming of_two -> fY
open PySem.PassesOwn renaming never -> f8
open List.Pairwise renaming nil -> gF,sublist -> lQ
open PySem.Value.ref renaming inj -> gU
open Sum renaming inl -> gZ,inr -> iy
open PySem.ReadAtMost renaming cons -> im
open PySem.Builtin.Frozenset renaming updateFrom -> iC
open PySem.Code renaming quiet_builtin -> iU,isFrame -> mQ
open PySem.Calls renaming Name_function_global -> iZ
open PySem.W.Looks renaming of_pure -> lK
open List.Perm renaming refl -> lM
open PySem.SeqAt renaming EqAt -> lT,room_head -> mW
open Prod.mk renaming injEq -> mq
open PySem.EntryCells renaming newEntry -> mH
open PySem.pickOrder renaming go -> mV
open PySem.Clear renaming nil -> m8
open PySem.Shared renaming heap -> nu
namespace PF
open PySem PySem.Spec PySem.SeqAt --
mutual
noncomputable def plD:ag -> Bool
 |.none=> true
 |.int _=> true
 |.str _=> true
 |.tuple xs=> xo xs
 |_=> false
noncomputable def xo:List ag -> Bool
 |[]=> true
 |x::xs=> plD x&&xo xs
end
theorem vn:plD (.tuple xs)=xo xs:=by simp only [plD]
theorem yk{x:ag}:xo (x::xs)=(plD x&&xo xs):=by simp only [xo]
theorem ahc: ∀xs:List ag,xo xs=xs.all plD
 |[]=> by simp only [xo,List.all_nil]
 |x::r=> by rw [yk,dJ,ahc r]
theorem evt{ys:List ag}:aM (.tuple xs) (.tuple ys)=c9 xs ys:=by simp only [aM]
theorem evs{x y:ag}{ys:List ag}:c9 (x::xs) (y::ys)=(aM x y&&c9 xs ys):=by simp only [c9]
mutual
theorem aj5: ∀a b:ag,plD a=true -> plD b=true -> (aM a b=true ↔ a=b)
 |.none,b,_,hb=> by cases b <;> simp [plD]at hb <;> simp [aM]
 |.int i,b,_,hb=> by cases b <;> simp [plD]at hb <;> simp [aM]
 |.str i,b,_,hb=> by cases b <;> simp [plD]at hb <;> simp [aM]
 |.tuple xs,.tuple ys,ha,hb=> by
  rw [evt,aqf xs ys (by rw [←vn];exact ha) (by rw [←vn];exact hb)]
  simp
 |.tuple xs,.none,_,_=> by simp [aM]
 |.tuple xs,.int _,_,_=> by simp [aM]
 |.tuple xs,.str _,_,_=> by simp [aM]
 |.tuple xs,.bool _,_,hb=> by simp [plD]at hb
 |.tuple xs,.list _,_,hb=> by simp [plD]at hb
 |.tuple xs,.dict _,_,hb=> by simp [plD]at hb
 |.bool _,_,ha,_=> by simp [plD]at ha
 |.list _,_,ha,_=> by simp [plD]at ha
 |.dict _,_,ha,_=> by simp [plD]at ha
theorem aqf: ∀xs ys:List ag,xo xs=true -> xo ys=true -> (c9 xs ys=true ↔ xs=ys)
 |[],[],_,_=> by simp [c9]
 |[],_::_,_,_=> by simp [c9]
 |_::_,[],_,_=> by simp [c9]
 |x::xs,y::ys,ha,hb=> by
  rw [yk,aG]at ha hb
  rw [evs,aG,aj5 x y ha.1 hb.1,aqf xs ys ha.2 hb.2,eW]
end
theorem aya{a:ag}(h:plD a=true):aM a a=true:=(aj5 a a h h).mpr rfl
mutual
noncomputable def ab7(w:aX):ag -> Int
 |.none=> 0xFCA86420
 |.int i=> hashInt i
 |.str x=> hashStr w x
 |.tuple xs=> reduceHash (cS (aad w xs))
 |_=> 0
noncomputable def aad(w:aX):List ag -> List Int
 |[]=> []
 |x::xs=> ab7 w x::aad w xs
end
mutual
noncomputable def abo:ag -> Nat
 |.tuple xs=> xj xs+1
 |_=> 1
noncomputable def xj:List ag -> Nat
 |[]=> 0
 |x::xs=> abo x+xj xs
end
theorem aj2(w:aX): ∀xs:List ag,aad w xs=xs.map (ab7 w)
 |[]=> by simp only [aad,dQ]
 |x::r=> by simp only [aad,aP,aj2 w r]
theorem adc: ∀xs ys:List ag,xj (xs++ys)=xj xs+xj ys
 |[],ys=> by simp [xj]
 |x::r,ys=> by simp only [cK,xj,adc r ys];lia
theorem afo: ∀{xs:List ag} {x:ag},x∈xs -> x.depth <=aN xs
 |[],x,h=> by cases h
 |y::r,x,h=> by
  simp only [aN]
  (rcases aw.mp h with rfl|h)
  ·lia
  ·have:=afo h;lia
section
variable{prog:aT}{w:aX} --
theorem auv{Q:Int -> ak -> Prop}(h:Q 0xFCA86420 {s with toks:=s.toks+1}):wpAny (model prog w) A (pyHash .none) Q E s:=by
 unfold pyHash
 have hv:[aZ].any Value.onHeap=false:=rfl
 refine ae ?_
 (rw [cRoomFor,if_neg (by rw [hv];exact aq)];refine ah ?_)
 refine ae (dW (iL s) fJ.lookup ?_)
 show wpAny _ _ (if (some (Value.builtin "NoneType.__hash__")==some aZ)=true then _ else _) Q E s
 (rw [if_neg (by rw [beq_builtin_none];exact aq)])
 refine ae (dW (iL s) fJ.lookup ?_)
 show wpAny _ _ (iq .none "__hash__" _ >>=_) Q E s
 refine ae (fK (iL s) fJ
  (bu fJ (iL s) F.entry_NoneType_hash
   (show wpAny _ _ (do ret (←mkInt 0xFCA86420)) _ _ s from wpAny_ret_mkInt ?_) (F.args_NoneType_hash_1 _)))
 show wpAny _ _ (if (decide (-(2:Int)^63 <=0xFCA86420)&&decide ((0xFCA86420:Int) < 2^63))=true then _ else _) Q E _
 rw [if_pos (by decide)]
 exact ah h
mutual
theorem aos: ∀(d:ag) {A:bj} {E:af -> ak -> Prop} {s:ak} {v:af} {bs:List Addr} {Q:Int -> ak -> Prop},plD d=true -> dz s.heap v d bs -> A.units+d.depth < cLine -> Q (ab7 w d) {s with toks:=s.toks+abo d} -> wpAny (model prog w) A (pyHash v) Q E s
 |.none,A,E,s,v,bs,Q,_,r,_,h=> by cases r;simp only [ab7,abo]at h;exact auv h
 |.int i,A,E,s,v,bs,Q,_,r,_,h=> by cases r;simp only [ab7,abo]at h;exact wpAny_pyHash_int h
 |.str x,A,E,s,v,bs,Q,_,r,_,h=> by cases r;simp only [ab7,abo]at h;exact wpAny_pyHash_str h
 | .tuple xs,A,E,s,v,bs,Q,hp,r,hu,h=> by
  have ih:=akq xs
  rw [vn,ahc,aI]at hp
  (simp only [aJ]at hu)
  cases r with
  | @tuple a o items n _ _ ho hc hd hi=>
  have hT:s.TypeIs (.ref a) "tuple":=⟨o,ho,hc⟩
  unfold pyHash pyHashByItsType
  refine ae (wpAny_cRoomFor_or (.inr (by lia)) ?_)
  (refine ae (dW hT gD.lookup ?_))
  show wpAny _ _ (if (some (Value.builtin "tuple.__hash__")==some aZ)=true then _ else _) Q E s --
  (rw [if_neg (by rw [beq_builtin_none];exact aq)])
  (refine ae (dW hT gD.lookup ?_))
  show wpAny _ _ (iq (.ref a) "__hash__" _ >>=_) Q E s --
  (refine ae (fK hT gD (bu gD hT F.entry_tuple_hash ?_ (F.args_tuple_hash_1 _))))
  show wpAny _ _ (d6 (.ref a)>>=_) _ _ s --
  (refine ae (wpAny_tupleItemsOf ho hd ?_))
  refine ae ?_
  rw [←Array.forIn_toList]
  refine jT _
   (fun jt (b:Array Int) s'=> ∃done left cs,xs=done++left/\cY s.heap jt left cs/\b.toList=done.map (ab7 w)/\s'={s with toks:=s.toks+xj done})
   _ ?_ ?_ _ _ ⟨[],xs,_,rfl,hi,rfl,rfl⟩
  ·rintro x jt b s' ⟨done,left,cs,e,hl,hb,rfl⟩
   cases hl with
   | @cons _ _ k ks' _ _ h1 hl'=>
    have hm:k∈xs:=by rw [e];simp
    have hdk:=afo hm
    have e1: ∀A:bj,A.in1.units <=A.units+1:=fun A=> by first|exact au _|(unfold Around.in1;simp)
    have e1A:=e1 A
    refine ae (ih k hm (s:={s with toks:=s.toks+xj done}) (hp k hm) h1 (by lia) ?_)
    first
     |exact ah ⟨done++ [k],ks',_,by rw [e];simp,hl',by simp [hb],by simp [adc,xj,gQ]⟩
     |exact ae (ah (ah ⟨done++ [k],ks',_,by rw [e];simp,hl',by simp [hb],by simp [adc,xj,gQ]⟩))
  ·rintro b s' ⟨done,left,cs,e,hl,hb,rfl⟩
   cases hl
   rw [cn]at e
   subst e
   show wpAny _ _ (retInt (cS b.toList)) _ _ _ --
   rw [hb,←aj2]
   refine wpAny_ret_mkInt ?_
   show wpAny _ _ (if (decide (-(2:Int)^63 <=cS (aad w xs))&&decide (cS (aad w xs) < 2^63))=true then _ else _) Q E _
   simp only [ab7,abo]at h
   unfold reduceHash at h
   by_cases hr:(decide (-(2:Int)^63 <=cS (aad w xs))&&decide (cS (aad w xs) < 2^63))=true
   ·rw [if_pos hr]
    rw [if_pos hr]at h
    (exact ah (by simpa [gQ] using h))
   ·rw [if_neg hr]
    rw [if_neg hr]at h
    (exact ae (cB (ah (by simpa [gQ] using h))))
 |.bool _,_,_,_,_,_,_,hp,_,_,_=> by simp [plD]at hp
 |.list _,_,_,_,_,_,_,hp,_,_,_=> by simp [plD]at hp
 |.dict _,_,_,_,_,_,_,hp,_,_,_=> by simp [plD]at hp
theorem akq: ∀(xs:List ag),∀d∈xs,∀{A:bj} {E:af -> ak -> Prop} {s:ak} {v:af} {bs:List Addr} {Q:Int -> ak -> Prop},plD d=true -> dz s.heap v d bs -> A.units+d.depth < cLine -> Q (ab7 w d) {s with toks:=s.toks+abo d} -> wpAny (model prog w) A (pyHash v) Q E s
 |[],d,m=> by cases m
 | x::r,d,m=> by
  intro h1 h2 h3 h4
  rcases aw.mp m with e|m
  ·rw [e]at h1 h2 h3 h4
   exact aos x h1 h2 h3 h4
  ·exact akq r d m h1 h2 h3 h4
end
mutual
theorem anw: ∀(d:ag) {n:Nat} {A:bj} {E:af -> ak -> Prop} {s:ak} {v:af} {bs:List Addr} {Q:Bool -> ak -> Prop},plD d=true -> dz s.heap v d bs -> d.depth <=n -> Q true s -> wpAny (model prog w) A (eqIsQuiet n v) Q E s
 |.none,n,A,E,s,v,bs,Q,_,r,_,h=> by cases r;rw [jC n rfl];exact ah h
 |.int i,n,A,E,s,v,bs,Q,_,r,_,h=> by cases r;rw [jC n rfl];exact ah h
 |.str x,n,A,E,s,v,bs,Q,_,r,_,h=> by cases r;rw [jC n rfl];exact ah h
 | .tuple xs,n,A,E,s,v,bs,Q,hp,r,hu,h=> by
  have ih:=aks xs
  rw [vn,ahc,aI]at hp
  (simp only [aJ]at hu)
  obtain⟨m,rfl⟩: ∃m,n=m+1:=⟨n - 1,by lia⟩
  cases r with
  | @tuple a o items n _ _ ho hc hd hi=>
  have hT:s.TypeIs (.ref a) "tuple":=⟨o,ho,hc⟩
  unfold eqIsQuiet
  (refine ae (dW hT F.slot_tuple_eq.lookup ?_))
  show wpAny _ _ (isInstance (.ref a) (.type "tuple")>>=_) _ _ s --
  (refine ae (eG hT isSubtype_tuple_tuple ?_))
  (simp only [me,cc,if_false])
  (refine ae (dm ho hd ?_))
  refine ae ?_
  show wpAny _ _ (forIn items _ _) _ _ s --
  rw [←Array.forIn_toList]
  refine jT _ (fun jt r s'=> r.1=none/\s'=s/\ ∃left cs,(∀x∈left,x∈xs)/\cY s.heap jt left cs) _ ?_ ?_ _ _ ⟨rfl,rfl,xs,_,fun _ m=> m,hi⟩
  ·rintro v jt r s' ⟨hr,rfl,left,cs,sub,hl⟩
   cases hl with
   | @cons _ _ k ks' _ _ h1 hl'=>
    have hm:=sub k aB
    have hdk:=afo hm
    refine ae (ih k hm (hp k hm) h1 (by lia) ?_)
    (simp only [me,cc,if_false])
    exact ah ⟨rfl,rfl,ks',_,fun x m=> sub x (az _ m),hl'⟩
  ·rintro⟨r1,r2⟩ s' ⟨hr,rfl,_⟩
   simp only at hr
   subst hr
   exact ah h
 |.bool _,_,_,_,_,_,_,_,hp,_,_,_=> by simp [plD]at hp
 |.list _,_,_,_,_,_,_,_,hp,_,_,_=> by simp [plD]at hp
 |.dict _,_,_,_,_,_,_,_,hp,_,_,_=> by simp [plD]at hp
theorem aks: ∀(xs:List ag),∀d∈xs,∀{n:Nat} {A:bj} {E:af -> ak -> Prop} {s:ak} {v:af} {bs:List Addr} {Q:Bool -> ak -> Prop},plD d=true -> dz s.heap v d bs -> d.depth <=n -> Q true s -> wpAny (model prog w) A (eqIsQuiet n v) Q E s
 |[],d,m=> by cases m
 | x::r,d,m=> by
  intro h1 h2 h3 h4
  rcases aw.mp m with e|m
  ·rw [e]at h1 h2 h3
   exact anw x h1 h2 h3 h4
  ·exact aks r d m h1 h2 h3 h4
end
mutual
theorem aka: ∀(d:ag) {h h':Heap} {v:af} {bs:List Addr} {a:Addr} {o:Obj} {es:Array kO} {ep:Nat},plD d=true -> dz h v d bs -> h.get? a=some o -> o.data=.dict es ep -> bJ a h h' -> dz h' v d bs
 |.none,_,_,_,_,_,_,_,_,_,r,_,_,_=> by cases r;exact .none
 |.int i,_,_,_,_,_,_,_,_,_,r,_,_,_=> by cases r;exact .int _ _
 |.str x,_,_,_,_,_,_,_,_,_,r,_,_,_=> by cases r;exact .str _ _
 | .tuple xs,h,h',v,bs,a,o,es,ep,hp,r,ho,hd,hs=> by
  rw [vn]at hp
  cases r with
  | @tuple b ob items n _ _ h1 h2 h3 h4=>
   have ne:b≠a:=by
    rintro rfl
    rw [h1]at ho
    cases ho
    rw [hd]at h3;cases h3
   exact .tuple ((hs.2 b ne).trans h1) h2 h3 (ai5 xs hp h4 ho hd hs)
 |.bool _,_,_,_,_,_,_,_,_,hp,_,_,_,_=> by simp [plD]at hp
 |.list _,_,_,_,_,_,_,_,_,hp,_,_,_,_=> by simp [plD]at hp
 |.dict _,_,_,_,_,_,_,_,_,hp,_,_,_,_=> by simp [plD]at hp
theorem ai5: ∀(xs:List ag) {h h':Heap} {vs:List af} {bs:List Addr} {a:Addr} {o:Obj} {es:Array kO} {ep:Nat},xo xs=true -> cY h vs xs bs -> h.get? a=some o -> o.data=.dict es ep -> bJ a h h' -> cY h' vs xs bs
 |[],_,_,_,_,_,_,_,_,_,r,_,_,_=> by cases r;exact .nil
 |x::xs,_,_,_,_,_,_,_,_,hp,r,ho,hd,hs=> by
  rw [yk,aG]at hp
  cases r with
  |cons r1 r2=> exact .cons (aka x hp.1 r1 ho hd hs) (ai5 xs hp.2 r2 ho hd hs)
end
def ail(d:ag):Bool:=plD d&&d.canLay0&&decide (d.depth <=8)
theorem zy{d:ag}:ail d=true ↔ plD d=true/\d.canLay0=true/\d.depth <=8:=by
 unfold ail
 simp only [aG,decide_eq_true_eq,and_assoc]
noncomputable instance:DecidableEq ag:=fun a b=> Classical.propDecidable (a=b)
def aym(prog:aT)(w:aX):HeapKind prog w ag where
 is h k a:=ail k=true/\ ∃bs,dz h (.ref a) k bs
 hash:=ab7 w
 draws:=abo
 room A:=A.units+10 < cLine
 inj:=by
  rintro h a x y ⟨k1,b1,r1⟩ ⟨k2,b2,r2⟩
  exact Reads.unique x y _ _ _ (zy.mp k1).2.1 r1 r2
 keeps:=by
  rintro h h' k a d o es ep ⟨k1,b1,r1⟩ ho hd hs
  exact⟨k1,b1,aka k (zy.mp k1).1 r1 ho hd hs⟩
 pyHash:=by
  rintro A E s k a Q hu ⟨k1,b1,r1⟩ h
  obtain⟨p,c,d⟩:=zy.mp k1
  exact aos k p r1 (by lia) h
 eqBool:=by
  rintro A E s x y a b Q hu ⟨k1,b1,r1⟩ ⟨k2,b2,r2⟩ h
  obtain⟨p,c,d⟩:=zy.mp k1
  obtain⟨p',c',d'⟩:=zy.mp k2
  refine eqAt_reads x y A s _ _ _ _ r1 r2 c c' (by lia) prog w E Q ?_
  have:aM x y=decide (x=y):=by
   (rw [aW,decide_eq_true_eq])
   exact aj5 x y p p'
  rw [this];exact h
 quiet:=by
  rintro A E s k a Q ⟨k1,b1,r1⟩ h
  obtain⟨p,c,d⟩:=zy.mp k1
  exact anw k p r1 (by lia) h
end
end PF
namespace L2
open PySem PySem.Spec PyProof.Rows
abbrev Key:=Sum Int Str
noncomputable def azi:Key -> af -> Bool
 |.inl k,v=> fW k v
 |.inr x,v=> gR x v
noncomputable def a9u(w:aX):Key -> Int
 |.inl k=> hashInt k
 |.inr x=> hashStr w x
theorem qi: ∀{k:Key} {v:af},azi k v=true -> (∃i t,k=gZ i/\v=dq i t)\/(∃x t,k=iy x/\v=gb x t)
 |.inl i,v,h=> by
  obtain⟨t,e⟩:=jD (k:=i) (v:=v) h
  exact .inl ⟨i,t,rfl,e⟩
 |.inr x,v,h=> by
  obtain⟨t,e⟩:=Value.isStrOf_shape (x:=x) (v:=v) h
  exact .inr ⟨x,t,rfl,e⟩
theorem a5n(a b:Int):decide ((gZ a:Key)=gZ b)=(a==b):=by
 by_cases e:a=b
 ·subst e;simp
 ·have h: ¬(gZ a:Key)=gZ b:=fun q=> e (gZ.inj q)
  rw [decide_eq_false h]
  exact (beq_eq_false_iff_ne.mpr e).symm
theorem a4n(a b:Str):decide ((iy a:Key)=iy b)=decide (a=b):=by
 by_cases e:a=b
 ·subst e;simp
 ·have h: ¬(iy a:Key)=iy b:=fun q=> e (iy.inj q)
  rw [decide_eq_false h,decide_eq_false e]
theorem a3c(a:Int)(b:Str):decide ((gZ a:Key)=iy b)=false:=decide_eq_false (fun q=> nomatch q)
theorem a4g(a:Str)(b:Int):decide ((iy a:Key)=gZ b)=false:=decide_eq_false (fun q=> nomatch q)
def ae0(prog:aT)(w:aX):PySem.KeyKind prog w Key where
 is:=azi
 hash:=a9u w
 inj:=fun v a b ha hb=> by
  rcases qi ha with ⟨i,t,rfl,rfl⟩|⟨x,t,rfl,rfl⟩
  ·rcases qi hb with ⟨j,u,rfl,e⟩|⟨y,u,rfl,e⟩
   ·injection e with e1 _;rw [e1]
   ·exact nomatch e
  ·rcases qi hb with ⟨j,u,rfl,e⟩|⟨y,u,rfl,e⟩
   ·exact nomatch e
   ·injection e with e1 _;rw [e1]
 byValue:=fun k v h=> by
  rcases qi h with ⟨i,t,rfl,rfl⟩|⟨x,t,rfl,rfl⟩ <;> rfl
 pyHash:=fun hv h=> by
  rcases qi hv with ⟨i,t,rfl,rfl⟩|⟨x,t,rfl,rfl⟩
  ·exact wpAny_pyHash_int h
  ·exact wpAny_pyHash_str h
 eqBool:=fun hu hv h=> by
  rcases qi hu with ⟨i,t,rfl,rfl⟩|⟨x,t,rfl,rfl⟩
  ·rcases qi hv with ⟨j,u,rfl,rfl⟩|⟨y,u,rfl,rfl⟩
   ·rw [a5n]at h;exact wpAny_eqBool_int h
   ·rw [a3c]at h;exact lT.int_str i t y u _ _ _ _ h
  ·rcases qi hv with ⟨j,u,rfl,rfl⟩|⟨y,u,rfl,rfl⟩
   ·rw [a4g]at h;exact lT.str_int x t j u _ _ _ _ h
   ·rw [a4n]at h;exact wpAny_eqBool_str h
 «strs»:=fun k x t v h=> by
  rcases qi h with ⟨i,u,rfl,e⟩|⟨y,u,rfl,e⟩
  ·exact nomatch e
  ·injection e with e1 _
   subst e1
   cases v <;> rfl
inductive V where
 |non|bl (b:Bool)|int (i:Int)|str (x:Str)|byt (b:Array UInt8)|flt (b:UInt64)|ref (a:Addr)|ty (n:String)
 deriving DecidableEq
def RelV:V -> af -> Prop
 |.non,u=> u=aZ
 |.bl b,u=> u=fL b
 |.int i,u=> ∃t,u=dq i t
 |.str x,u=> ∃t,u=gb x t
 |.byt b,u=> ∃t,u=Value.bytes b t
 |.flt b,u=> ∃t,u=Value.float b t
 |.ref a,u=> u=aS a
 |.ty n,u=> u=bE n
abbrev jm:List V -> List af -> Prop:=mO RelV
theorem jm.length{xs:List V}{us:List af}(r:jm xs us):xs.length=us.length:=Paired.length r
theorem jm.get: ∀{xs:List V} {us:List af} {i:Nat} {x:V},jm xs us -> xs[i]?=some x -> ∃u,us[i]?=some u/\RelV x u
 |_,_,_,_,.nil,e=> by simp at e
 |_,_,0,_,.cons r _,e=> by simp at e;subst e;exact⟨_,rfl,r⟩
 |_,_,i+1,x,.cons _ t,e=> by
  obtain⟨u,h1,h2⟩:=jm.get (i:=i) (x:=x) t (by simpa using e)
  exact⟨u,by simpa using h1,h2⟩
theorem jm.set{x:V}{u:af}(r:RelV x u): ∀{xs:List V} {us:List af} (i:Nat),jm xs us -> jm (xs.set i x) (us.set i u)
 |_,_,_,.nil=>.nil
 |_,_,0,.cons _ t=>.cons r t
 |_,_,i+1,.cons q t=>.cons q (jm.set r i t)
theorem jm.append: ∀{xs ys:List V} {us ws:List af},jm xs us -> jm ys ws -> jm (xs++ys) (us++ws)
 |_,_,_,_,.nil,s=> s
 |_,_,_,_,.cons r t,s=>.cons r (jm.append t s)
theorem jm.take: ∀{xs:List V} {us:List af} (n:Nat),jm xs us -> jm (xs.take n) (us.take n)
 |_,_,0,_=>.nil
 |_,_,_+1,.nil=>.nil
 |_,_,n+1,.cons r t=>.cons r (jm.take n t)
theorem jm.drop: ∀{xs:List V} {us:List af} (n:Nat),jm xs us -> jm (xs.drop n) (us.drop n)
 |_,_,0,r=> r
 |_,_,_+1,.nil=>.nil
 |_,_,n+1,.cons _ t=> jm.drop n t
def afx:Option V -> Option af -> Prop
 |some v,some u=> RelV v u
 |none,none=> True
 |_,_=> False
def KV{κ:Type}:List (κ×V) -> List (κ×af) -> Prop:=mO fun (p:κ×V) (q:κ×af)=> p.1=q.1/\RelV p.2 q.2
noncomputable def kV:Key -> V
 |.inl i=>.int i
 |.inr x=>.str x
inductive HO where
 /-- a list -/
 |lst (xs:List V)
 /-- a tuple (never changes) -/
 |tup (xs:List V)
 /-- a dict whose keys are ints and texts;one whose keys are tuples of ints and texts (the empty one is both) -/
 |dK (kvs:List (Key×V))|dT (kvs:List (List Key×V))
 /-- one whose keys are plain tuples -/
 |dD (kvs:List (ag×V))
 /-- a set of ints:its members,its size -/
 |set (S:Int -> Bool) (n:Nat)
 /-- an instance of the class at C,its dict at dx,its attributes -/
 |ins (C dx:Addr) (fs:List (Str×V))
 /-- the dict of the instance at x -/
 |own (x:Addr)
 /-- the dict of an exception -/
 |xd (fs:List (Str×V))
 /-- a bound method,f of x -/
 |met (f x:Addr)
 /-- a range object lo,lo+1,.. below hi -/
 |rng (lo hi:Int)
 /-- a thing that is known to the object (the script;a dict while a loop walks it):read,never written while it is so -/
 |frz (o:Obj) (u:HO)
 /-- a code object's table -/
 |tbl (ps:Array af)
 /-- an exception of the class at C,its attributes -/
 |exn (C:Addr) (fs:List (Str×V))
 /-- an exception that was raised:its class,its attributes -/
 |exx (C:Addr) (fs:List (Str×V))
 /-- any other thing,by what is true of its one object (a def of one's own:SetO a S n:=HO.ext fun h=>..) -/
 |ext (φ:Heap -> Prop)
abbrev Hp:=Addr -> Option HO
mutual
inductive KD (H:Hp):V -> ag -> Prop
 |non:KD H .non .none
 |int (i:Int):KD H (.int i) (.int i)
 |str (x:Str):KD H (.str x) (.str x)
 |tup {p:Addr} {xs:List V} {ds:List ag}:H p=some (.tup xs) -> KDs H xs ds -> KD H (.ref p) (.tuple ds)
inductive KDs (H:Hp):List V -> List ag -> Prop
 |nil:KDs H [] []
 |cons {x:V} {xs:List V} {d:ag} {ds:List ag}:KD H x d -> KDs H xs ds -> KDs H (x::xs) (d::ds)
end
mutual
theorem KD.mono{H H':Hp}(ht: ∀b xs,H b=some (.tup xs) -> H' b=some (.tup xs)): ∀{v:V} {d:ag},KD H v d -> KD H' v d
 |_,_,.non=>.non
 |_,_,.int i=>.int i
 |_,_,.str x=>.str x
 |_,_,.tup e r=>.tup (ht _ _ e) (KDs.mono ht r)
theorem KDs.mono{H H':Hp}(ht: ∀b xs,H b=some (.tup xs) -> H' b=some (.tup xs)): ∀{v:List V} {d:List ag},KDs H v d -> KDs H' v d
 |_,_,.nil=>.nil
 |_,_,.cons a r=>.cons (KD.mono ht a) (KDs.mono ht r)
end
noncomputable def upd(H:Hp)(a:Addr)(o:HO):Hp:=fun b=> if b=a then some o else H b
theorem yw{H:Hp}{o:HO}:upd H a o a=some o:=by unfold upd;rw [if_pos rfl]
theorem ko{H:Hp}{o:HO}(h:b≠a):upd H a o b=H b:=by unfold upd;rw [if_neg h]
theorem xw{H:Hp}{o:HO}(h:H a=some o)(h':H b=none):a≠b:=by
 intro e;subst e;rw [h]at h';cases h'
def ael(h:Heap)(a:Addr)(its:Array af):Prop:= ∃n,h.get? a=some {cls:=.type "tuple",data:=.seq its n}
theorem ael.tup{its:Array af}(x:ael h a its):IsTup h a its:=let ⟨n,e⟩:=x;⟨_,e,rfl,n,rfl⟩
theorem ael.new(h:Heap)(its:Array af):ael (h.push {cls:=.type "tuple",data:=.seq its}) h.objs.size its:=⟨_,aA _ rfl⟩
abbrev ax1(C:Addr)(dx:Option Addr)(t:Addr):Obj:={cls:=.ref C,dict:=dx,data:=.fields #[.ref t,.none,.none,.none,.bool false,.none]}
abbrev adb(C:Addr)(dx:Option Addr)(t:Addr)(tb:af):Obj:={cls:=.ref C,dict:=dx,data:=.fields #[.ref t,tb,.none,.none,.bool false,.none]}
section
variable(P:aT)(w:aX)
def ke(H:Hp)(h:Heap)(a:Addr):HO -> Prop
 |.lst xs=> xs.length <=sizeLine/\ ∃(its:List af) (n:Nat),jm xs its/\h.get? a=some {cls:=.type "list",data:=.seq its.toArray n}
 |.tup xs=> xs.length <=sizeLine/\ ∃its:List af,jm xs its/\ael h a its.toArray
 |.dK kvs=> kvs.length <=sizeLine/\(a==fM)=false/\ ∃vs,KV kvs vs/\h.DictOf (ae0 P w) a vs
 | .dT kvs=> kvs.length <=sizeLine/\(a==fM)=false/\ ∃xs:List (List Key×Addr×af),
   mO (fun (p:List Key×V) (q:List Key×Addr×af)=> p.1=q.1/\H q.2.1=some (.tup (p.1.map kV))/\RelV p.2 q.2.2) kvs xs/\
   ∃o es ep,h.get? a=some o/\o.ExactDict/\o.data=.dict es ep/\es.toList=xs.map (entryOfKey (tupleKind (ae0 P w)))/\(xs.map (·.1)).Nodup
 | .dD kvs=> kvs.length <=sizeLine/\(a==fM)=false/\ ∃xs:List (ag×Addr×af),
   mO (fun (p:ag×V) (q:ag×Addr×af)=> p.1=q.1/\(PF.ail p.1=true/\KD H (.ref q.2.1) p.1)/\RelV p.2 q.2.2) kvs xs/\
   ∃o es ep,h.get? a=some o/\o.ExactDict/\o.data=.dict es ep/\es.toList=xs.map (entryOfKey (PF.aym P w))/\(xs.map (·.1)).Nodup
 |.set S n=> h.SetOf (intKind P w) a S n
 | .ins C dx fs=> H dx=some (.own a)/\fs.length <=1000/\dx≠a/\h.get? a=some (kQ C dx)/\
   ∃mA,h.Ns1 dx mA/\(∀f,afx (fs.lookup f) (mA f))/\fx mA (fs.map (·.1))
 | .exn C fs=> fs.length <=1000/\ ∃(t:Addr) (dxo:Option Addr),h.get? a=some (ax1 C dxo t)/\((dxo=none/\fs=[])\/ ∃dx,dxo=some dx/\H dx=some (.own a)/\dx≠a/\
   ∃mA,h.Ns1 dx mA/\(∀f,afx (fs.lookup f) (mA f))/\fx mA (fs.map (·.1)))
 | .exx C fs=> fs.length <=1000/\ ∃(t:Addr) (tb:af) (dxo:Option Addr),h.get? a=some (adb C dxo t tb)/\((dxo=none/\fs=[])\/ ∃dx,dxo=some dx/\H dx=some (.own a)/\dx≠a/\
   ∃mA,h.Ns1 dx mA/\(∀f,afx (fs.lookup f) (mA f))/\fx mA (fs.map (·.1)))
 |.own _=> ∃o,h.get? a=some o
 |.xd fs=> ∃mA,h.Ns1 a mA/\ ∀f,afx (fs.lookup f) (mA f)
 |.rng lo hi=> ∃t u v,h.get? a=some {cls:=.type "range",data:=.fields #[.int lo t,.int hi u,.int 1 v]}
 |.frz o u=> h.get? a=some o/\ke H h a u
 |.tbl ps=> h.get? a=some {cls:=.none,data:=.fields ps}
 |.met f x=> h.get? a=some (jE (.ref f) (.ref x))
 |.ext φ=> φ h/\(∃o,h.get? a=some o)/\ ∀h1 h2:Heap,φ h1 -> (∀o,h1.get? a=some o -> h2.get? a=some o) -> φ h2
def HOk(H:Hp)(h:Heap):Prop:= ∀a o,H a=some o -> ke P w H h a o
end
section
variable{P:aT}{w:aX}{H H':Hp}{h h':Heap}{a:Addr}{o:HO}
theorem ke.lt(x:ke P w H h a o):a < h.objs.size:=by
 cases o with
 |lst xs=> obtain⟨_,_,_,_,e⟩:=x;exact ay e
 |tup xs=> obtain⟨_,_,_,p⟩:=x;exact p.tup.lt
 |dK kvs=> obtain⟨_,_,_,_,o,_,_,e,_⟩:=x;exact ay e
 |dT kvs=> obtain⟨_,_,_,_,o,_,_,e,_⟩:=x;exact ay e
 |dD kvs=> obtain⟨_,_,_,_,o,_,_,e,_⟩:=x;exact ay e
 |set S n=> obtain⟨o,_,_,_,e,_⟩:=x;exact ay e
 |ins C dx fs=> obtain⟨_,_,_,e,_⟩:=x;exact ay e
 |exn C fs=> obtain⟨_,_,_,e,_⟩:=x;exact ay e
 |exx C fs=> obtain⟨_,_,_,_,e,_⟩:=x;exact ay e
 |own y=> obtain⟨_,e⟩:=x;exact ay e
 |xd fs=> obtain⟨_,⟨_,_,_,e,_⟩,_⟩:=x;exact ay e
 |rng lo hi=> obtain⟨_,_,_,e⟩:=x;exact ay e
 |frz ob u=> obtain⟨e,_⟩:=x;exact ay e
 |tbl ps=> exact ay (show h.get? a=some _ from x)
 |met f y=> exact ay (show h.get? a=some _ from x)
 |ext φ=> obtain⟨_,⟨_,e⟩,_⟩:=x;exact ay e
theorem Paired.mapP{α β:Type}{F G:α -> β -> Prop}: ∀{l₁:List α} {l₂:List β},mO F l₁ l₂ -> (∀a b,F a b -> G a b) -> mO G l₁ l₂
 |_,_,.nil,_=>.nil
 |_,_,.cons r t,f=>.cons (f _ _ r) (Paired.mapP t f)
theorem ke.stay(x:ke P w H h a o)(k: ∀b u,(b=a\/H b=some (.own a)) -> h.get? b=some u -> h'.get? b=some u)
  (ho: ∀b,H b=some (.own a) -> H' b=some (.own a)) (ht: ∀b xs,H b=some (.tup xs) -> H' b=some (.tup xs)):ke P w H' h' a o:=by
 induction o with
 |lst xs=> obtain⟨z,its,n,r,e⟩:=x;exact⟨z,its,n,r,k _ _ (.inl rfl) e⟩
 |tup xs=> obtain⟨z,its,r,n,e⟩:=x;exact⟨z,its,r,n,k _ _ (.inl rfl) e⟩
 |dK kvs=> obtain⟨z,y,vs,r,ob,es,ep,e,c⟩:=x;exact⟨z,y,vs,r,ob,es,ep,k _ _ (.inl rfl) e,c⟩
 |dT kvs=>
  obtain⟨z,y,xs,r,ob,es,ep,e,c⟩:=x
  exact⟨z,y,xs,Paired.mapP r fun p q z=> ⟨z.1,ht _ _ z.2.1,z.2.2⟩,ob,es,ep,k _ _ (.inl rfl) e,c⟩
 |dD kvs=>
  obtain⟨z,y,xs,r,ob,es,ep,e,c⟩:=x
  exact⟨z,y,xs,Paired.mapP r fun p q z=> ⟨z.1,⟨z.2.1.1,z.2.1.2.mono ht⟩,z.2.2⟩,ob,es,ep,k _ _ (.inl rfl) e,c⟩
 |set S n=> obtain⟨ob,es,ep,t,e,c⟩:=x;exact⟨ob,es,ep,t,k _ _ (.inl rfl) e,c⟩
 |ins C dx fs=>
  obtain⟨d,z,ne,e,mA,⟨od,es,ep,e2,c⟩,r⟩:=x
  exact⟨ho _ d,z,ne,k _ _ (.inl rfl) e,mA,⟨od,es,ep,k _ _ (.inr d) e2,c⟩,r⟩
 |exn C fs=>
  obtain⟨z,t,dxo,e,q⟩:=x
  refine⟨z,t,dxo,k _ _ (.inl rfl) e,?_⟩
  rcases q with q|⟨dx,q,d,ne,mA,⟨od,es,ep,e2,c⟩,r⟩
  ·exact .inl q
  ·exact .inr ⟨dx,q,ho _ d,ne,mA,⟨od,es,ep,k _ _ (.inr d) e2,c⟩,r⟩
 |exx C fs=>
  obtain⟨z,t,tb,dxo,e,q⟩:=x
  refine⟨z,t,tb,dxo,k _ _ (.inl rfl) e,?_⟩
  rcases q with q|⟨dx,q,d,ne,mA,⟨od,es,ep,e2,c⟩,r⟩
  ·exact .inl q
  ·exact .inr ⟨dx,q,ho _ d,ne,mA,⟨od,es,ep,k _ _ (.inr d) e2,c⟩,r⟩
 |own y=> obtain⟨ob,e⟩:=x;exact⟨ob,k _ _ (.inl rfl) e⟩
 |xd fs=> obtain⟨mA,⟨od,es,ep,e,c⟩,r⟩:=x;exact⟨mA,⟨od,es,ep,k _ _ (.inl rfl) e,c⟩,r⟩
 |rng lo hi=> obtain⟨t,u,v,e⟩:=x;exact⟨t,u,v,k _ _ (.inl rfl) e⟩
 |frz ob u ih=> obtain⟨e,q⟩:=x;exact⟨k _ _ (.inl rfl) e,ih q⟩
 |tbl ps=>
  have e:h.get? a=some {cls:=.none,data:=.fields ps}:=x
  show h'.get? a=some {cls:=.none,data:=.fields ps}
  exact k a _ (.inl rfl) e
 |met f y=>
  have e:h.get? a=some (jE (.ref f) (.ref y)):=x
  show h'.get? a=some (jE (.ref f) (.ref y))
  exact k a _ (.inl rfl) e
 |ext φ=> obtain⟨p,⟨o,e⟩,st⟩:=x;exact⟨st _ _ p fun o q=> k _ _ (.inl rfl) q,⟨o,k _ _ (.inl rfl) e⟩,st⟩
theorem HOk.lt(x:HOk P w H h)(e:H a=some o):a < h.objs.size:=(x a o e).lt
theorem HOk.fresh(x:HOk P w H h)(e:h.objs.size <=a):H a=none:=by
 cases q:H a with
 |none=> rfl
 |some u=> exact absurd (aU (x.lt q) e) (cO _)
theorem HOk.kept(x:HOk P w H h)(k: ∀b u,h.get? b=some u -> h'.get? b=some u):HOk P w H h':=fun a o e=>
 (x a o e).stay (fun b u _ q=> k b u q) (fun _ q=> q) fun _ _ q=> q
theorem HOk.laid(x:HOk P w H h)(k: ∀b u,h.get? b=some u -> h'.get? b=some u)(hp:h.objs.size <=a)(new:ke P w (upd H a o) h' a o):HOk P w (upd H a o) h':=fun b u e=> by
 have hn:=x.fresh hp
 by_cases hb:b=a
 ·subst hb;rw [yw]at e;cases e;exact new
 ·rw [ko hb]at e
  exact (x b u e).stay (fun c v _ q=> k c v q) (fun c q=> by rw [ko (xw q hn)];exact q) fun c xs q=> by rw [ko (xw q hn)];exact q
end
def Rd(H:Hp)(a:Addr)(u:HO):Prop:=H a=some u\/ ∃o,H a=some (.frz o u)
theorem Rd.ok{H:Hp}{u:HO}(r:Rd H a u)(x:HOk P w H h):ke P w H h a u:=by
 rcases r with r|⟨o,r⟩
 ·exact x a u r
 ·obtain⟨_,q⟩:=x a _ r
  exact q
def Mut:Option HO -> Prop
 |some (.lst _)=> True
 |some (.dK _)=> True
 |some (.dT _)=> True
 |some (.dD _)=> True
 |some (.set _ _)=> True
 |some (.ins _ _ _)=> True
 |some (.ext _)=> True
 |some (.exx _ _)=> True
 |some (.exn _ _)=> True
 |_=> False
section
variable{P:aT}{w:aX}{H:Hp}{h h':Heap}{x e:Addr}{o':HO}
theorem HOk.write(ok:HOk P w H h)(mu:Mut (H x))(he:e=x\/H e=some (.own x))(k: ∀b u,b≠e -> h.get? b=some u -> h'.get? b=some u)(heo: ∃u,h'.get? e=some u)
  (new:ke P w (upd H x o') h' x o'):HOk P w (upd H x o') h':=fun b u q=> by
 have nown: ∀c y,H c=some (.own y) -> c≠x:=fun c y r z=> by subst z;rw [r]at mu;exact mu
 have ntup: ∀c xs,H c=some (.tup xs) -> c≠x:=fun c xs r z=> by subst z;rw [r]at mu;exact mu
 by_cases hb:b=x
 ·subst hb;rw [yw]at q;cases q;exact new
 ·rw [ko hb]at q
  by_cases hbe:b=e
  ·have q':H b=some (.own x):=by
    rcases he with z|z
    ·exact absurd (hbe.trans z) hb
    ·rw [hbe];exact z
   rw [q]at q';cases q'
   obtain⟨v,hv⟩:=heo
   exact⟨v,by rw [hbe];exact hv⟩
  ·refine (ok b u q).stay (fun c v hc r=> k c v ?_ r) (fun c r=> by rw [ko (nown c b r)];exact r) fun c xs r=> by rw [ko (ntup c xs r)];exact r
   rcases hc with rfl|hc
   ·exact hbe
   ·rintro rfl
    rcases he with z|z
    ·exact nown c b hc z
    ·rw [hc]at z;cases z;exact hb rfl
end
structure Un (fs ex:List Addr) (H H':Hp) (h h':Heap):Prop where
 keep: ∀b o,h.get? b=some o -> H b=none -> b∉fs -> b∉ex -> h'.get? b=some o
 slot: ∀b o,h.get? b=some o -> H b=none -> b∈fs -> b∉ex -> ∃sl,h'.get? b=some {o with slots:=sl}
 free: ∀b o,h.get? b=some o -> H b=none -> b∉ex -> H' b=none
 there: ∀b o,h.get? b=some o -> b∉ex -> ∃o',h'.get? b=some o'
 tups: ∀b xs,H b=some (.tup xs) -> H' b=some (.tup xs)
 frzs: ∀b o u,H b=some (.frz o u) -> H' b=some (.frz o u)
 tbls: ∀b ps,H b=some (.tbl ps) -> ∃more,H' b=some (.tbl (ps++more))
section
variable{fs fs' ex ex':List Addr}{H H1 H2:Hp}{h h1 h2 h':Heap}{a x e:Addr}{o:HO}
theorem Un.any(u:Un fs ex H H1 h h1){ob:Obj}(q:h.get? b=some ob)(n:H b=none)(hx:b∉ex): ∃sl,h1.get? b=some {ob with slots:=sl}:=by
 by_cases hb:b∈fs
 ·exact u.slot b ob q n hb hx
 ·exact⟨ob.slots,u.keep b ob q n hb hx⟩
theorem Un.kept(k: ∀b u,h.get? b=some u -> h'.get? b=some u):Un fs ex H H h h':=
 ⟨fun b ob q _ _ _=> k b ob q,fun b ob q _ _ _=> ⟨ob.slots,k b ob q⟩,fun _ _ _ n _=> n,fun b ob q _=> ⟨ob,k b ob q⟩,fun _ _ q=> q,fun _ _ _ q=> q,fun _ ps q=> ⟨#[],by rw [q];simp⟩⟩
theorem Un.refl:Un fs ex H H h h:=Un.kept fun _ _ q=> q
theorem Un.laid(k: ∀b u,h.get? b=some u -> h'.get? b=some u)(hp:h.objs.size <=a)(hn:H a=none):Un fs ex H (upd H a o) h h' where
 keep:=fun b u q _ _ _=> k b u q
 slot:=fun b u q _ _ _=> ⟨u.slots,k b u q⟩
 free:=fun b u q n _=> by rw [ko (aR (aU (ay q) hp))];exact n
 there:=fun b u q _=> ⟨u,k b u q⟩
 tups:=fun b xs q=> by rw [ko (xw q hn)];exact q
 frzs:=fun b u xs q=> by rw [ko (xw q hn)];exact q
 tbls:=fun b ps q=> ⟨#[],by rw [ko (xw q hn),q];simp⟩
theorem Un.write(mu:Mut (H x))(he:e=x\/H e=some (.own x))(k: ∀b u,b≠e -> h.get? b=some u -> h'.get? b=some u)(heo: ∃u,h'.get? e=some u):Un fs ex H (upd H x o) h h':=by
 have hx: ∀b,H b=none -> b≠x:=fun b n z=> by subst z;rw [n]at mu;exact mu
 have hb: ∀b,H b=none -> b≠e:=fun b n z=> by
  subst z
  rcases he with r|r
  ·exact hx b n r
  ·rw [n]at r;cases r
 have hm: ∀b u,H b=some u -> ¬Mut (some u) -> b≠x:=fun b u q nm z=> by subst z;rw [q]at mu;exact nm mu
 refine⟨fun b u q n _ _=> k b u (hb b n) q,fun b u q n _ _=> ⟨u.slots,k b u (hb b n) q⟩,fun b u q n _=> by rw [ko (hx b n)];exact n,fun b u q _=> ?_,
  fun b xs q=> by rw [ko (hm b _ q fun z=> z)];exact q,fun b u xs q=> by rw [ko (hm b _ q fun z=> z)];exact q,fun b ps q=> ⟨#[],by rw [ko (hm b _ q fun z=> z),q];simp⟩⟩
 by_cases hbe:b=e
 ·subst hbe;exact heo
 ·exact⟨u,k b u hbe q⟩
end
noncomputable def trk(h:Heap)(H:Hp):List Addr:=(bn h.objs.size).filter fun a=> (H a).isSome
def aex(h:Heap)(H:Hp):Heap:=PySem.W.hideAll h (trk h H)
theorem aul(h:Heap)(H:Hp):(aex h H).objs.size=h.objs.size:=PySem.W.hideAll_size _ _
theorem ay0{H:Hp}{o:Obj}(e:h.get? b=some o)(n:H b=none):(aex h H).get? b=some o:=
 PySem.W.hideAll_get _ e fun hm=> by
  have q:(H b).isSome=true:=(bU.mp hm).2
  rw [n]at q;simp at q
theorem a21{H:Hp}{o:Obj}(e:(aex h H).get? b=some o):h.get? b=some o/\H b=none:=by
 have e':h.get? b=some o:=PySem.W.of_hideAll (trk h H) e
 refine⟨e',?_⟩
 cases q:H b with
 |none=> rfl
 |some x=>
  have hm:b∈trk h H:=bU.mpr ⟨eF.mpr (ay e'),by simp [q]⟩
  have z:(aex h H).get? b=none:=PySem.W.hideAll_none (trk h H) hm
  rw [z]at e;cases e
noncomputable def a25(g h:Heap)(L:Addr):List (Addr×Obj):=(bn h.objs.size).filterMap fun a=> if a=L\/(g.get? a).isSome=true then none else (h.get? a).map fun o=> (a,o)
def jt(g h:Heap)(L d:Addr):List (Addr×Obj):=(a25 g h L).filter fun p=> decide (p.1≠d)
structure Mod (K:am) (mg:Str -> Option af) (base:Heap):Prop where
 kin:K.In base
 glob:base.Ns aV mg
 blt: ∃mb,base.Ns builtinsNs mb/\ ∀x:Str,x≠"__name__" -> mb x=bo x
 nolimit:base.NoLimit
structure Cx where
 prog:aT
 w:aX
 K:am
 mg:Str -> Option af
 base:Heap
 A:bj
 N:List Str
 s₀:ak
 H₀:Hp
 env:Env
 outer:List Env
 stack:List Env
 ex:List Addr
 fn:Str -> Bool
 calm:Bool
 pn:List (Addr×Obj)
 xe:af -> ak -> Prop
noncomputable def frs(l:List Env):List Addr:=l.filterMap (·.frame)
abbrev Cx.fs(X:Cx):List Addr:=frs X.outer
def Vis(sc:gn)(x:Str):Prop:=sc.names.lookup x=some .local\/sc.names.lookup x=some .cell\/sc.names.lookup x=some .free
def Loc(sc:gn)(x:Str):Prop:=sc.names.lookup x=some .local\/sc.names.lookup x=some .cell
def Look(env:Env)(h:Heap)(m:Str -> Option af)(x:Str)(u:af):Prop:=
 (env.kindOf x=some .local/\m x=some u)\/((env.kindOf x=some .cell\/env.kindOf x=some .free)/\ ∃c,env.cells.lookup x=some c/\h.IsCell c (some u))
structure Cx.Ok (X:Cx):Prop where
 mod:Mod X.K X.mg X.base
 kind:X.env.scope.kind=.function
 glob:X.env.globals=aV
 blt:X.env.builtins=builtinsNs
 above:X.s₀.heap.objs.size <=X.env.locals
 inj: ∀x y c,X.env.cells.lookup x=some c -> X.env.cells.lookup y=some c -> x=y
 has: ∀x,(X.env.kindOf x=some .cell\/X.env.kindOf x=some .free) -> ∃c,X.env.cells.lookup x=some c
 cab: ∀x c,X.fn x=true -> X.env.cells.lookup x=some c -> X.s₀.heap.objs.size <=c
 hd:X.calm=true -> X.A.handled=none
 frames:X.A.frames=some X.stack
 stk:X.stack=X.outer\/(X.stack=X.env::X.outer/\X.env.frame=some X.env.locals)
 exf: ∀b∈X.ex,b≠X.env.locals/\ ∀x c,X.env.cells.lookup x=some c -> c≠b
 bs: ∀b o,X.base.get? b=some o -> X.s₀.heap.get? b=some o/\X.H₀ b=none
 bsz:X.base.objs.size <=X.s₀.heap.objs.size
 noex: ∀b o,X.base.get? b=some o -> b∉X.ex
 exfs: ∀b∈X.ex,b∉X.fs
 funs:X.s₀.heap.FunFrames X.base X.outer
 frf: ∀b∈X.fs,X.H₀ b=none
structure Inv (X:Cx) (pins:List (Addr×Obj)) (σ:List (Option V)) (H:Hp) (s:ak):Prop where
 ok:X.Ok
 os:s.os=X.s₀.os
 bare:gr s.gens
 base:Un X.fs X.ex X.H₀ H X.s₀.heap s.heap
 loc: ∃m,s.heap.Ns X.env.locals m/\ ∀(i:Nat) (x:Str) (v:V),X.N[i]?=some x -> σ[i]?=some (some v) -> Vis X.env.scope x -> ∃u,RelV v u/\Look X.env s.heap m x u
 cell: ∀x c,X.env.cells.lookup x=some c -> ∃v,s.heap.IsCell c v
 free:H X.env.locals=none
 freeC: ∀x c,X.env.cells.lookup x=some c -> H c=none
 pin: ∀p∈X.pn++pins,s.heap.get? p.1=some p.2/\H p.1=none/\p.1≠X.env.locals/\p.1∉X.fs/\ ∀v,p.2.data≠ .cell v
 hok:HOk X.prog X.w H s.heap
 len:σ.length=X.N.length
section
variable{X:Cx}{pins:List (Addr×Obj)}{σ:List (Option V)}{H H':Hp}{s:ak}{h':Heap}
theorem Cx.Ok.nofr(ok:X.Ok){o:Obj}(e:X.base.get? b=some o):b∉X.fs:=fun hb=> by
 have:=(ok.funs.mem hb).1
 rw [e]at this;cases this
theorem Inv.bs(I:Inv X pins σ H s): ∀b o,X.base.get? b=some o -> s.heap.get? b=some o/\H b=none:=fun b o e=>
 ⟨I.base.keep b o (I.ok.bs b o e).1 (I.ok.bs b o e).2 (I.ok.nofr e) (I.ok.noex b o e),I.base.free b o (I.ok.bs b o e).1 (I.ok.bs b o e).2 (I.ok.noex b o e)⟩
theorem Inv.bk(I:Inv X pins σ H s): ∀b o,X.base.get? b=some o -> s.heap.get? b=some o:=fun b o e=> (I.bs b o e).1
theorem Inv.mod(I:Inv X pins σ H s):Mod X.K X.mg X.base:=I.ok.mod
theorem Inv.kIn(I:Inv X pins σ H s):X.K.In s.heap:=I.ok.mod.kin.keeps I.bk
theorem Inv.lt(I:Inv X pins σ H s):X.env.locals < s.heap.objs.size:=let ⟨_,hn,_⟩:=I.loc;hn.lt
theorem Inv.sz(I:Inv X pins σ H s):X.s₀.heap.objs.size <=s.heap.objs.size:=aH I.ok.above (gc I.lt)
theorem Inv.nofs(I:Inv X pins σ H s)(h:s.heap.objs.size <=a):a∉X.fs:=fun hb=> by
 obtain⟨_,o,ho,_⟩:=I.ok.funs.mem hb
 exact absurd (aU (ay ho) (aH I.sz h)) (cO _)
theorem Inv.cne(I:Inv X pins σ H s): ∀x c,X.env.cells.lookup x=some c -> c≠X.env.locals:=fun x c e z=> by
 obtain⟨v,o,ho,hd⟩:=I.cell x c e
 obtain⟨m,⟨o',es,ep,ho',hd',_⟩,_⟩:=I.loc
 rw [z,ho']at ho;cases ho;rw [hd']at hd;cases hd
theorem Inv.funs(I:Inv X pins σ H s):s.heap.FunFrames X.base X.outer:=by
 have all: ∀(l:List Env),(∀b∈frs l,b∈X.fs) -> X.s₀.heap.FunFrames X.base l -> s.heap.FunFrames X.base l:=by
  intro l
  induction l with
  |nil=> intro _ _;trivial
  |cons env r ih=>
   intro hs hl
   obtain⟨hk,⟨L,o,hf,hn,ho,hd⟩,hr⟩:=hl
   have hL:L∈X.fs:=hs L (by unfold frs;rw [eM,hf];exact aB)
   obtain⟨sl,e⟩:=I.base.slot L o ho (I.ok.frf L hL) hL fun z=> I.ok.exfs L z hL
   exact⟨hk,⟨L,_,hf,hn,e,hd⟩,ih (fun b hb=> hs b (by unfold frs;rw [eM,hf];exact az _ hb)) hr⟩
 exact all X.outer (fun _ hb=> hb) I.ok.funs
theorem Inv.stack(I:Inv X pins σ H s):s.heap.FunFrames X.base X.stack:=by
 rcases I.ok.stk with e|⟨e,hf⟩
 ·rw [e];exact I.funs
 ·rw [e]
  obtain⟨m,hn,_⟩:=I.loc
  refine .cons (by rw [I.ok.kind];decide) hf hn ?_ I.funs
  exact Heap.get?_none_of_le (aH I.ok.bsz I.ok.above)
theorem Inv.stkSub(I:Inv X pins σ H s): ∀b∈frs X.stack,b∈X.env.locals::X.fs:=fun b hb=> by
 rcases I.ok.stk with e|⟨e,hf⟩
 ·rw [e]at hb;exact az _ hb
 ·rw [e]at hb
  unfold frs at hb
  rw [eM,hf]at hb
  exact hb
theorem Inv.stkFree(I:Inv X pins σ H s): ∀b∈frs X.stack,H b=none:=fun b hb=> by
 rcases aw.mp (I.stkSub b hb) with e|hb
 ·rw [e];exact I.free
 ·obtain⟨_,o,ho,_⟩:=I.ok.funs.mem hb
  exact I.base.free b o ho (I.ok.frf b hb) fun z=> I.ok.exfs b z hb
theorem Inv.step{g':Array iz}{d':Drawn}(I:Inv X pins σ H s)(hch: ∀b∈ch,(b∈X.ex\/X.s₀.heap.objs.size <=b)/\b≠X.env.locals/\(∀x c,X.env.cells.lookup x=some c -> c≠b)/\ ∀p∈X.pn++pins,p.1≠b)(keep: ∀b o,b≠X.env.locals -> b∉X.fs -> b∉ch -> s.heap.get? b=some o -> H b=none -> h'.get? b=some o)(slot: ∀b o,b≠X.env.locals -> b∈X.fs -> b∉ch -> s.heap.get? b=some o -> H b=none -> ∃sl,h'.get? b=some {o with slots:=sl})(free: ∀b o,b∉ch -> s.heap.get? b=some o -> H b=none -> H' b=none)(there: ∀b o,b∉ch -> s.heap.get? b=some o -> ∃o',h'.get? b=some o')(tups: ∀b xs,H b=some (.tup xs) -> H' b=some (.tup xs))(frzs: ∀b o u,H b=some (.frz o u) -> H' b=some (.frz o u))(tbls: ∀b ps,H b=some (.tbl ps) -> ∃more,H' b=some (.tbl (ps++more)))(ns: ∀m,s.heap.Ns X.env.locals m -> h'.Ns X.env.locals m)(hok:HOk X.prog X.w H' h')(hg:gr g'):
  Inv X pins σ H' {s with heap:=h',gens:=g',drawn:=d',toks:=t'}:=by
 have neL: ∀b o,X.s₀.heap.get? b=some o -> b≠X.env.locals:=fun b o e=> aR (aU (ay e) I.ok.above)
 have neC: ∀b o,X.s₀.heap.get? b=some o -> b∉X.ex -> b∉ch:=fun b o e hx hb=> by
  rcases (hch b hb).1 with z|z
  ·exact hx z
  ·exact absurd (aU (ay e) z) (cO _)
 have cellK: ∀x c,X.env.cells.lookup x=some c -> ∀v,s.heap.IsCell c v -> h'.IsCell c v:=fun x c e v ⟨o,ho,hd⟩=> by
  have nch:c∉ch:=fun z=> (hch c z).2.2.1 x c e rfl
  by_cases hc:c∈X.fs
  ·obtain⟨sl,q⟩:=slot c o (I.cne x c e) hc nch ho (I.freeC x c e)
   exact⟨_,q,hd⟩
  ·exact⟨o,keep c o (I.cne x c e) hc nch ho (I.freeC x c e),hd⟩
 refine⟨I.ok,I.os,hg,⟨fun b o e n hb hx=> ?_,fun b o e n hb hx=> ?_,fun b o e n hx=> ?_,fun b o e hx=> ?_,fun b xs e=> tups b xs (I.base.tups b xs e),fun b o xs e=> frzs b o xs (I.base.frzs b o xs e),fun b ps e=> ?_⟩,?_,fun x c e=> ?_,?_,fun x c e=> ?_,fun p hp=> ?_,hok,I.len⟩
 ·exact keep b o (neL b o e) hb (neC b o e hx) (I.base.keep b o e n hb hx) (I.base.free b o e n hx)
 ·obtain⟨sl,e1⟩:=I.base.slot b o e n hb hx
  obtain⟨sl',e2⟩:=slot b _ (neL b o e) hb (neC b o e hx) e1 (I.base.free b o e n hx)
  exact⟨sl',e2⟩
 ·obtain⟨o',e1⟩:=I.base.there b o e hx
  exact free b o' (neC b o e hx) e1 (I.base.free b o e n hx)
 ·obtain⟨o',e1⟩:=I.base.there b o e hx
  exact there b o' (neC b o e hx) e1
 ·obtain⟨m1,e1⟩:=I.base.tbls b ps e
  obtain⟨m2,e2⟩:=tbls b _ e1
  exact⟨m1++m2,by rw [e2,Array.append_assoc]⟩
 ·obtain⟨m,hn,hl⟩:=I.loc
  refine⟨m,ns m hn,fun i x v e1 e2 e3=> ?_⟩
  obtain⟨u,r,l⟩:=hl i x v e1 e2 e3
  refine⟨u,r,?_⟩
  rcases l with l|⟨k,c,e,z⟩
  ·exact .inl l
  ·exact .inr ⟨k,c,e,cellK x c e _ z⟩
 ·obtain⟨v,z⟩:=I.cell x c e
  exact⟨v,cellK x c e v z⟩
 ·obtain⟨m,⟨o,_,_,ho,_⟩,_⟩:=I.loc
  exact free _ o (fun z=> (hch _ z).2.1 rfl) ho I.free
 ·obtain⟨v,o,ho,hd⟩:=I.cell x c e
  exact free c o (fun z=> (hch c z).2.2.1 x c e rfl) ho (I.freeC x c e)
 ·obtain⟨e,n,ne,nf,d⟩:=I.pin p hp
  have nch:p.1∉ch:=fun z=> (hch p.1 z).2.2.2 p hp rfl
  exact⟨keep p.1 p.2 ne nf nch e n,free p.1 p.2 nch e n,ne,nf,d⟩
theorem Inv.un(I:Inv X pins σ H s)(u:Un X.fs [] H H' s.heap h')(hok:HOk X.prog X.w H' h'):Inv X pins σ H' {s with heap:=h',toks:=t'}:=by
 obtain⟨m,⟨o,es,ep,ho,r⟩,_⟩:=id I.loc
 obtain⟨sl,hL⟩:=u.any ho I.free (by simp)
 exact I.step (g':=s.gens) (d':=s.drawn) (ch:=[]) (fun _ z=> nomatch z) (fun b o _ hb _ e n=> u.keep b o e n hb (by simp)) (fun b o _ hb _ e n=> u.slot b o e n hb (by simp)) (fun b o _ e n=> u.free b o e n (by simp)) (fun b o _ e=> u.there b o e (by simp)) u.tups u.frzs u.tbls (fun m' hm=> by
  obtain⟨o',es',ep',ho',r'⟩:=hm
  rw [ho]at ho';cases ho'
  exact⟨_,es',ep',hL,r'⟩) hok I.bare
theorem Inv.call{g':Array iz}{d':Drawn}(I:Inv X pins σ H s)(u:Un (frs X.stack) ch H H' s.heap h')(hok:HOk X.prog X.w H' h')(hg:gr g')(hch: ∀b∈ch,(b∈X.ex\/X.s₀.heap.objs.size <=b)/\b≠X.env.locals/\(∀x c,X.env.cells.lookup x=some c -> c≠b)/\ ∀p∈X.pn++pins,p.1≠b):
  Inv X pins σ H' {s with heap:=h',gens:=g',drawn:=d',toks:=t'}:=by
 obtain⟨m,⟨o,es,ep,ho,r⟩,_⟩:=id I.loc
 obtain⟨sl,hL⟩:=u.any ho I.free fun z=> (hch _ z).2.1 rfl
 exact I.step (ch:=ch) hch (fun b o hL hb hc e n=> u.keep b o e n (fun z=> (aw.mp (I.stkSub b z)).elim hL hb) hc) (fun b o _ _ hc e n=> u.any e n hc) (fun b o hc e n=> u.free b o e n hc) (fun b o hc e=> u.there b o e hc) u.tups u.frzs u.tbls (fun m' hm=> by
  obtain⟨o',es',ep',ho',r'⟩:=hm
  rw [ho]at ho';cases ho'
  exact⟨_,es',ep',hL,r'⟩) hok hg
theorem Inv.turned{it:Addr}(I:Inv X pins σ H s)(k: ∀b o,b≠it -> s.heap.get? b=some o -> h'.get? b=some o)(hn:H it=none)(hL:it≠X.env.locals)(h1:it∈X.ex\/X.s₀.heap.objs.size <=it)(h2: ∀x c,X.env.cells.lookup x=some c -> c≠it)(h3: ∀p∈X.pn++pins,p.1≠it):Inv X pins σ H {s with heap:=h',toks:=t'}:=by
 have nit: ∀b u,H b=some u -> b≠it:=fun b u e z=> by rw [z,hn]at e;cases e
 refine I.step (g':=s.gens) (d':=s.drawn) (ch:=[it]) (fun b hb=> ?_) (fun b o _ _ hc e _=> k b o (fun z=> hc (by simp [z])) e) (fun b o _ _ hc e _=> ⟨o.slots,k b o (fun z=> hc (by simp [z])) e⟩) (fun _ _ _ _ n=> n)
  (fun b o hc e=> ⟨o,k b o (fun z=> hc (by simp [z])) e⟩) (fun _ _ e=> e) (fun _ _ _ e=> e) (fun b ps e=> ⟨#[],by rw [e];simp⟩) (fun m hm=> ?_) (fun b u e=> ?_) I.bare
 ·have e:b=it:=by simpa using hb
  subst e
  exact⟨h1,hL,h2,h3⟩
 ·obtain⟨o,es,ep,ho,r⟩:=hm
  exact⟨o,es,ep,k _ o (cW hL) ho,r⟩
 ·refine (I.hok b u e).stay (fun c v hc q=> k c v ?_ q) (fun _ q=> q) fun _ _ q=> q
  rcases hc with z|z
  ·rw [z];exact nit b u e
  ·exact nit c _ z
theorem Inv.tok(I:Inv X pins σ H s)(t:Nat):Inv X pins σ H {s with toks:=t}:=I.un (h':=s.heap) (t':=t) Un.refl I.hok
theorem Inv.kept(I:Inv X pins σ H s)(k: ∀b u,s.heap.get? b=some u -> h'.get? b=some u):Inv X pins σ H {s with heap:=h',toks:=t'}:=I.un (Un.kept k) (I.hok.kept k)
theorem Inv.laid{o:HO}(I:Inv X pins σ H s)(k: ∀b u,s.heap.get? b=some u -> h'.get? b=some u)(hp:s.heap.objs.size <=a)(new:ke X.prog X.w (upd H a o) h' a o):
  Inv X pins σ (upd H a o) {s with heap:=h',toks:=t'}:=I.un (Un.laid k hp (I.hok.fresh hp)) (I.hok.laid k hp new)
theorem Inv.write{x e:Addr}{o:HO}(I:Inv X pins σ H s)(mu:Mut (H x))(he:e=x\/H e=some (.own x))(k: ∀b u,b≠e -> s.heap.get? b=some u -> h'.get? b=some u)(heo: ∃u,h'.get? e=some u)(new:ke X.prog X.w (upd H x o) h' x o):Inv X pins σ (upd H x o) {s with heap:=h',toks:=t'}:=I.un (Un.write mu he k heo) (I.hok.write mu he k heo new)
theorem Inv.pins_of{pins':List (Addr×Obj)}(I:Inv X pins σ H s)(h: ∀p∈pins',s.heap.get? p.1=some p.2/\H p.1=none/\p.1≠X.env.locals/\p.1∉X.fs/\ ∀v,p.2.data≠ .cell v):Inv X pins' σ H s:=
 ⟨I.ok,I.os,I.bare,I.base,I.loc,I.cell,I.free,I.freeC,fun p hp=> (bI.mp hp).elim (fun z=> I.pin p (fN _ z)) (h p),I.hok,I.len⟩
theorem anm{N:List Str}(hN:N.Nodup){j:Nat}{x:Str}(a:N[i]?=some x)(b:N[j]?=some x):i=j:=by
 obtain⟨h1,e1⟩:=aE.mp a
 obtain⟨h2,e2⟩:=aE.mp b
 exact (List.getElem_inj hN).mp (e1.trans e2.symm)
theorem akp{x:Str}{v:V}(I:Inv X pins σ H s)(hN:X.N.Nodup)(hi:X.N[i]?=some x)(hx:Loc X.env.scope x)(r:RelV v u)(h: ∀s',Inv X pins (σ.set i (some v)) H s' -> (∃a,bJ a s.heap s'.heap/\(a=X.env.locals\/X.env.cells.lookup x=some a)) -> Q () s')(hf:X.fn x=true\/X.env.scope.names.lookup x=some .local:=by first|exact .inl rfl|exact .inr rfl|assumption):wpAny M A (storeName X.env x u) Q E s:=by
 obtain⟨m,hn,hl⟩:=id I.loc
 have hcls:(X.env.scope.kind==.class||(X.env.scope.kind==.module&&X.env.locals !=X.env.globals))=false:=by rw [I.ok.kind];rfl
 have hiσ:i < σ.length:=by rw [I.len];exact (aE.mp hi).1
 have cne:=I.cne
 have tracked: ∀{a:Addr} {h':Heap},(∃o,s.heap.get? a=some o/\H a=none) -> bJ a s.heap h' -> HOk X.prog X.w H h':=fun {a h'} ha hs b ob e=> by
  obtain⟨_,_,hfree⟩:=ha
  refine (I.hok b ob e).stay (fun c w' hc q=> (hs.2 c ?_).trans q) (fun _ q=> q) fun _ _ q=> q
  rintro rfl
  rcases hc with rfl|hc
  ·rw [hfree]at e;cases e
  ·rw [hfree]at hc;cases hc
 rcases hx with hk|hk
 ·refine wpAny_storeName_local hk hn (fun h' hn' hs=> ?_) hcls
  obtain⟨oL,_,_,hoL,_⟩:=id hn
  refine h _ ⟨I.ok,I.os,I.bare,⟨fun b o e n hb hx=> ?_,fun b o e n hb hx=> ?_,I.base.free,fun b o e hx=> ?_,I.base.tups,I.base.frzs,I.base.tbls⟩,⟨_,hn',fun j y v' e1 e2 e3=> ?_⟩,fun y c e=> ?_,I.free,I.freeC,fun p hp=> ?_,tracked ⟨oL,hoL,I.free⟩ hs,by simpa using I.len⟩ ⟨_,hs,.inl rfl⟩
  ·exact (hs.2 b (aR (aU (ay e) I.ok.above))).trans (I.base.keep b o e n hb hx)
  ·obtain⟨sl,e1⟩:=I.base.slot b o e n hb hx
   exact⟨sl,(hs.2 b (aR (aU (ay e) I.ok.above))).trans e1⟩
  ·obtain⟨o',e1⟩:=I.base.there b o e hx
   exact⟨o',(hs.2 b (aR (aU (ay e) I.ok.above))).trans e1⟩
  ·by_cases hj:j=i
   ·subst hj
    rw [hi]at e1;cases e1
    rw [bN hiσ]at e2
    cases e2
    exact⟨u,r,.inl ⟨hk,by simp⟩⟩
   ·rw [a8 (cW hj)]at e2
    obtain⟨u',r',q⟩:=hl j y v' e1 e2 e3
    refine⟨u',r',?_⟩
    rcases q with ⟨k,e⟩|⟨k,c,e,z⟩
    ·refine .inl ⟨k,?_⟩
     have:y≠x:=fun e=> hj (anm hN e1 (e▸hi))
     simp [this,e]
    ·exact .inr ⟨k,c,e,z.sameBut hs (cne y c e)⟩
  ·obtain⟨w',z⟩:=I.cell y c e
   exact⟨w',z.sameBut hs (cne y c e)⟩
  ·obtain⟨e,n,ne,nf,d⟩:=I.pin p hp
   exact⟨(hs.2 p.1 ne).trans e,n,ne,nf,d⟩
 ·have hfn:X.fn x=true:=by
   rcases hf with z|z
   ·exact z
   ·rw [z]at hk;cases hk
  obtain⟨c,hc⟩:=I.ok.has x (.inl hk)
  obtain⟨w',z⟩:=I.cell x c hc
  refine wpAny_storeName_cell I.ok.kind hk hc z (fun h' hc' hs=> ?_)
  obtain⟨oc,hoc,hocd⟩:=id z
  refine h {s with heap:=h'} ⟨I.ok,I.os,I.bare,⟨fun b o e n hb hx=> ?_,fun b o e n hb hx=> ?_,I.base.free,fun b o e hx=> ?_,I.base.tups,I.base.frzs,I.base.tbls⟩,⟨m,hn.sameBut hs (cW (cne x c hc)),fun j y v' e1 e2 e3=> ?_⟩,fun y c' e=> ?_,I.free,I.freeC,fun p hp=> ?_,tracked ⟨oc,hoc,I.freeC x c hc⟩ hs,by simpa using I.len⟩ ⟨c,hs,.inr hc⟩
  ·exact (hs.2 b (aR (aU (ay e) (I.ok.cab x c hfn hc)))).trans (I.base.keep b o e n hb hx)
  ·obtain⟨sl,e1⟩:=I.base.slot b o e n hb hx
   exact⟨sl,(hs.2 b (aR (aU (ay e) (I.ok.cab x c hfn hc)))).trans e1⟩
  ·obtain⟨o',e1⟩:=I.base.there b o e hx
   exact⟨o',(hs.2 b (aR (aU (ay e) (I.ok.cab x c hfn hc)))).trans e1⟩
  ·by_cases hj:j=i
   ·subst hj
    rw [hi]at e1;cases e1
    rw [bN hiσ]at e2
    cases e2
    exact⟨u,r,.inr ⟨.inl hk,c,hc,hc'⟩⟩
   ·rw [a8 (cW hj)]at e2
    obtain⟨u',r',q⟩:=hl j y v' e1 e2 e3
    refine⟨u',r',?_⟩
    rcases q with q|⟨k,c',e,z'⟩
    ·exact .inl q
    ·refine .inr ⟨k,c',e,z'.sameBut hs ?_⟩
     rintro rfl
     exact hj (anm hN e1 (I.ok.inj _ _ _ e hc▸hi))
  ·by_cases hcc:c'=c
   ·subst hcc;exact⟨_,hc'⟩
   ·obtain⟨w2,z2⟩:=I.cell y c' e
    exact⟨w2,z2.sameBut hs hcc⟩
  ·obtain⟨e,n,ne,nf,d⟩:=I.pin p hp
   refine⟨(hs.2 p.1 ?_).trans e,n,ne,nf,d⟩
   intro q
   rw [q,hoc]at e
   have q':oc=p.2:=cq e
   exact d w' (by rw [←q'];exact hocd)
theorem ahk{x:Str}{v:V}(I:Inv X pins σ H s)(hN:X.N.Nodup)(hi:X.N[i]?=some x)(hx:Loc X.env.scope x)(r:RelV v u)(h: ∀s',Inv X pins (σ.set i (some v)) H s' -> Q () s')(hf:X.fn x=true\/X.env.scope.names.lookup x=some .local:=by first|exact .inl rfl|exact .inr rfl|assumption):wpAny M A (storeName X.env x u) Q E s:=
 akp I hN hi hx r (fun s' I' _=> h s' I') hf
theorem Inv.call'{s':ak}(I:Inv X pins σ H s)(ho:s'.os=s.os)(u:Un (frs X.stack) ch H H' s.heap s'.heap)(hok:HOk X.prog X.w H' s'.heap)(hg:gr s'.gens)(hch: ∀b∈ch,(b∈X.ex\/X.s₀.heap.objs.size <=b)/\b≠X.env.locals/\(∀x c,X.env.cells.lookup x=some c -> c≠b)/\ ∀p∈X.pn++pins,p.1≠b):Inv X pins σ H' s':=by
 obtain⟨h',g',d',t',o'⟩:=s'
 have e:o'=s.os:=ho
 subst e
 exact I.call (g':=g') (t':=t') (d':=d') u hok hg hch
end
abbrev XK:=af -> Option Addr -> Hp -> Prop
abbrev St:=List (Option V)
abbrev SK:=St -> XK
abbrev VK:=V -> Hp -> Prop
abbrev TE:=St -> Hp -> VK -> Prop
abbrev TT:=St -> Hp -> (Bool -> Hp -> Prop) -> Prop
abbrev TA:=St -> Hp -> (List V -> Hp -> Prop) -> Prop
structure Ends where
 nx:St -> Hp -> Prop
 rt:VK
 bk:St -> Hp -> Prop:=fun _ _=> False
 ct:St -> Hp -> Prop:=fun _ _=> False
abbrev TS:=Ends -> St -> Hp -> Prop
def EP(X:Cx)(pins:List (Addr×Obj))(σ:St)(Q:VK)(u:af)(s':ak):Prop:= ∃v H',Inv X pins σ H' s'/\RelV v u/\Q v H'
def TP(X:Cx)(pins:List (Addr×Obj))(σ:St)(Q:Bool -> Hp -> Prop)(b:Bool)(s':ak):Prop:= ∃H',Inv X pins σ H' s'/\Q b H'
def AP(X:Cx)(pins:List (Addr×Obj))(σ:St)(Q:List V -> Hp -> Prop)(us:List af)(s':ak):Prop:= ∃vs H',Inv X pins σ H' s'/\jm vs us/\Q vs H'
def SP(X:Cx)(pins:List (Addr×Obj))(D:Ends)(f:Flow)(s':ak):Prop:=
 match f with
 |.next=> ∃σ' H',Inv X pins σ' H' s'/\D.nx σ' H'
 |.brk=> ∃σ' H',Inv X pins σ' H' s'/\D.bk σ' H'
 |.cont=> ∃σ' H',Inv X pins σ' H' s'/\D.ct σ' H'
 |.ret u=> ∃v σ' H',Inv X pins σ' H' s'/\RelV v u/\D.rt v H'
structure PE (X:Cx) (e:Expr) (t:TE):Prop where
 run: ∀(pins:List (Addr×Obj)) (s:ak) (σ:St) (H:Hp) (Q:VK),Inv X pins σ H s -> t σ H Q -> wpAny (model X.prog X.w) X.A (eval e X.env) (EP X pins σ Q) X.xe s
instance {X:Cx} {e:Expr} {t:TE}:CoeFun (PE X e t) fun _=> ∀(pins:List (Addr×Obj)) (s:ak) (σ:St) (H:Hp) (Q:VK),Inv X pins σ H s -> t σ H Q -> wpAny (model X.prog X.w) X.A (eval e X.env) (EP X pins σ Q) X.xe s:=⟨PE.run⟩
structure PT (X:Cx) (e:Expr) (t:TT):Prop where
 run: ∀(pins:List (Addr×Obj)) (s:ak) (σ:St) (H:Hp) (Q:Bool -> Hp -> Prop),Inv X pins σ H s -> t σ H Q -> wpAny (model X.prog X.w) X.A (isTrue e X.env (eval e X.env)) (TP X pins σ Q) X.xe s
instance {X:Cx} {e:Expr} {t:TT}:CoeFun (PT X e t) fun _=> ∀(pins:List (Addr×Obj)) (s:ak) (σ:St) (H:Hp) (Q:Bool -> Hp -> Prop),Inv X pins σ H s -> t σ H Q -> wpAny (model X.prog X.w) X.A (isTrue e X.env (eval e X.env)) (TP X pins σ Q) X.xe s:=⟨PT.run⟩
structure PW (X:Cx) (e:Expr) (t:TT):Prop where
 run: ∀(whole:Sem af) (pins:List (Addr×Obj)) (s:ak) (σ:St) (H:Hp) (Q:Bool -> Hp -> Prop),Inv X pins σ H s -> t σ H Q -> wpAny (model X.prog X.w) X.A (isTrue e X.env whole) (TP X pins σ Q) X.xe s
instance {X:Cx} {e:Expr} {t:TT}:CoeFun (PW X e t) fun _=> ∀(whole:Sem af) (pins:List (Addr×Obj)) (s:ak) (σ:St) (H:Hp) (Q:Bool -> Hp -> Prop),Inv X pins σ H s -> t σ H Q -> wpAny (model X.prog X.w) X.A (isTrue e X.env whole) (TP X pins σ Q) X.xe s:=⟨PW.run⟩
theorem PW.pt{X:Cx}{t:TT}(h:PW X e t):PT X e t:=⟨h _⟩
structure PA (X:Cx) (es:List Expr) (t:TA):Prop where
 run: ∀(pos:Pos) (pins:List (Addr×Obj)) (s:ak) (σ:St) (H:Hp) (Q:List V -> Hp -> Prop),Inv X pins σ H s -> t σ H Q -> wpAny (model X.prog X.w) X.A (spliced (backTo pos (starEach es X.env))) (AP X pins σ Q) X.xe s
instance {X:Cx} {es:List Expr} {t:TA}:CoeFun (PA X es t) fun _=> ∀(pos:Pos) (pins:List (Addr×Obj)) (s:ak) (σ:St) (H:Hp) (Q:List V -> Hp -> Prop),Inv X pins σ H s -> t σ H Q -> wpAny (model X.prog X.w) X.A (spliced (backTo pos (starEach es X.env))) (AP X pins σ Q) X.xe s:=⟨PA.run⟩
structure PS (X:Cx) (st:Stmt) (t:TS):Prop where
 run: ∀(pins:List (Addr×Obj)) (s:ak) (σ:St) (H:Hp) (D:Ends),Inv X pins σ H s -> t D σ H -> wpAny (model X.prog X.w) X.A (exec st X.env) (SP X pins D) X.xe s
instance {X:Cx} {st:Stmt} {t:TS}:CoeFun (PS X st t) fun _=> ∀(pins:List (Addr×Obj)) (s:ak) (σ:St) (H:Hp) (D:Ends),Inv X pins σ H s -> t D σ H -> wpAny (model X.prog X.w) X.A (exec st X.env) (SP X pins D) X.xe s:=⟨PS.run⟩
structure PSs (X:Cx) (st:List Stmt) (t:TS):Prop where
 run: ∀(pins:List (Addr×Obj)) (s:ak) (σ:St) (H:Hp) (D:Ends),Inv X pins σ H s -> t D σ H -> wpAny (model X.prog X.w) X.A (execs st X.env) (SP X pins D) X.xe s
instance {X:Cx} {st:List Stmt} {t:TS}:CoeFun (PSs X st t) fun _=> ∀(pins:List (Addr×Obj)) (s:ak) (σ:St) (H:Hp) (D:Ends),Inv X pins σ H s -> t D σ H -> wpAny (model X.prog X.w) X.A (execs st X.env) (SP X pins D) X.xe s:=⟨PSs.run⟩
theorem thn{α:Type}{t:Sem α}{Q Q':α -> ak -> Prop}(h:wpAny M A t Q E s)(hQ: ∀a s,Q a s -> Q' a s):wpAny M A t Q' E s:=cL h hQ fun _ _ x=> x
section
variable{X:Cx}
noncomputable def aw9(i:Nat):TE:=fun σ H Q=> ∃v,σ[i]?=some (some v)/\Q v H
noncomputable def tC(v:V):TE:=fun _ H Q=> Q v H
theorem auk{x:Str}(hN:X.N[i]?=some x)(hv:Vis X.env.scope x)(hd:(x==("__debug__":Str))=false:=by decide)(hcd:(x==("__classdict__":Str))=false:=by decide):PE X (.Name x pos) (aw9 i):=by
 (first|refine⟨?_⟩|skip);intro pins s σ H Q I h
 obtain⟨v,e,h⟩:=h
 obtain⟨m,hn,hl⟩:=I.loc
 obtain⟨u,r,l⟩:=hl i x v hN e hv
 have fin:EP X pins σ Q u s:=⟨v,H,I,r,h⟩
 rcases l with ⟨hk,hm⟩|⟨hk,c,hc,hcell⟩
 ·exact wpAny_Name (lU I.ok.kind hk hn hm fin) hd
 ·rcases hk with hk|hk
  ·exact wpAny_Name (mC I.ok.kind hk hc hcell fin) hd
  ·exact wpAny_Name (wpAny_loadName_free I.ok.kind hk hc hcell fin hcd) hd
theorem at8{i j pos}:PE X (.Constant (.int i) j pos) (tC (.int i)):=.mk <|fun _ _ _ H _ I h=> wpAny_Constant_int ⟨.int i,H,I.tok _,⟨_,rfl⟩,h⟩
theorem az4{b j pos}:PE X (.Constant (.bool b) j pos) (tC (.bl b)):=.mk <|fun _ _ _ H _ I h=> Constant_bool ⟨.bl b,H,I,rfl,h⟩
theorem ast{j pos}:PE X (.Constant .none j pos) (tC .non):=.mk <|fun _ _ _ H _ I h=> Constant_none ⟨.non,H,I,rfl,h⟩
theorem atf{x j pos}:PE X (.Constant (.str x) j pos) (tC (.str x)):=.mk <|fun _ _ _ H _ I h=> Calls.Constant_str ⟨.str x,H,I.tok _,⟨_,rfl⟩,h⟩
def Gl(X:Cx)(x:Str):Prop:=X.env.kindOf x=some .globalImplicit
theorem adz{σ:St}{H:Hp}{x:Str}{Q:af -> ak -> Prop}(I:Inv X pins σ H s)(hg:Gl X x)(hm:X.mg x=some u)(h:Q u s)(hd:(x==("__debug__":Str))=false:=by decide):wpAny (model X.prog X.w) X.A (eval (.Name x pos) X.env) Q E s:=
 iZ I.ok.kind hg (Calls.loadGlobal_global (by rw [I.ok.glob];exact I.mod.glob.keeps I.bk) hm h) hd
theorem aco{σ:St}{H:Hp}{x:Str}{Q:af -> ak -> Prop}(I:Inv X pins σ H s)(hg:Gl X x)(hm:X.mg x=none)(hv:bo x=some u)(h:Q u s)(hn:x≠"__name__":=by decide)(hd:(x==("__debug__":Str))=false:=by decide):wpAny (model X.prog X.w) X.A (eval (.Name x pos) X.env) Q E s:=by
 obtain⟨mb,h1,h2⟩:=I.mod.blt
 exact iZ I.ok.kind hg (Calls.loadGlobal_builtin (by rw [I.ok.glob];exact I.mod.glob.keeps I.bk) hm (by rw [I.ok.blt];exact h1.keeps I.bk) ((h2 x hn).trans hv) h) hd
theorem a31{x:Str}{v:V}(hg:Gl X x)(hm:X.mg x=some u)(r:RelV v u)(hd:(x==("__debug__":Str))=false:=by decide):PE X (.Name x pos) (tC v):=
 .mk <|fun _ _ _ H _ I h=> adz I hg hm ⟨v,H,I,r,h⟩ hd
theorem a0z{x:Str}{v:V}(hg:Gl X x)(hm:X.mg x=none)(hv:bo x=some u)(r:RelV v u)(hn:x≠"__name__":=by decide)(hd:(x==("__debug__":Str))=false:=by decide):PE X (.Name x pos) (tC v):=
 .mk <|fun _ _ _ H _ I h=> aco I hg hm hv ⟨v,H,I,r,h⟩ hn hd
variable{a b:Expr}{ta tb:TE}{pos:Pos}
variable{tA tB':TT}{jt:List Expr}
noncomputable def a43(t u:TT):TT:=fun σ H Q=> t σ H fun c H1=> if c=true then u σ H1 Q else Q false H1
noncomputable def tOr(t u:TT):TT:=fun σ H Q=> t σ H fun c H1=> if c=true then Q true H1 else u σ H1 Q
noncomputable def a4l(t:TT):TT:=fun σ H Q=> t σ H fun c H1=> Q (!c) H1
theorem a29(ha:PT X a tA):PW X (.BoolOp .And [a] pos) tA:=by
 (first|refine⟨?_⟩|skip);intro wh pins s σ H Q I h
 refine isTrue_and (thn (ha pins s σ H Q I h) fun c s1 e=> ?_)
 cases c with
 |true=> exact isTrue_and_nil e
 |false=> exact e
theorem a5i(ha:PT X a tA):PW X (.BoolOp .Or [a] pos) tA:=by
 (first|refine⟨?_⟩|skip);intro wh pins s σ H Q I h
 refine isTrue_or (thn (ha pins s σ H Q I h) fun c s1 e=> ?_)
 cases c with
 |false=> exact isTrue_or_nil e
 |true=> exact e
theorem a5y(ha:PT X a tA)(hb:PW X (.BoolOp .And (b::jt) pos) tB'):PW X (.BoolOp .And (a::b::jt) pos) (a43 tA tB'):=by
 (first|refine⟨?_⟩|skip);intro wh pins s σ H Q I h
 refine isTrue_and (thn (ha pins s σ H _ I h) fun c s1 ⟨H1,I1,q1⟩=> ?_)
 cases c with
 |true=> exact hb wh pins s1 σ H1 Q I1 q1
 |false=> exact⟨H1,I1,q1⟩
theorem a7j(ha:PT X a tA)(hb:PW X (.BoolOp .Or (b::jt) pos) tB'):PW X (.BoolOp .Or (a::b::jt) pos) (tOr tA tB'):=by
 (first|refine⟨?_⟩|skip);intro wh pins s σ H Q I h
 refine isTrue_or (thn (ha pins s σ H _ I h) fun c s1 ⟨H1,I1,q1⟩=> ?_)
 cases c with
 |true=> exact⟨H1,I1,q1⟩
 |false=> exact hb wh pins s1 σ H1 Q I1 q1
theorem a45(ha:PT X a tA):PT X (.UnaryOp .Not a pos) (a4l tA):=by
 (first|refine⟨?_⟩|skip);intro pins s σ H Q I h
 exact isTrue_not (ha pins s σ H (fun c H1=> Q (!c) H1) I h)
noncomputable def a8h(ta tb:TE):TE:=fun σ H Q=> ta σ H fun x H1=> ∃c,x=.bl c/\if c=true then tb σ H1 Q else Q (.bl false) H1
noncomputable def a96(ta tb:TE):TE:=fun σ H Q=> ta σ H fun x H1=> ∃c,x=.bl c/\if c=true then Q (.bl true) H1 else tb σ H1 Q
noncomputable def a75(ta:TE):TE:=fun σ H Q=> ta σ H fun x H1=> ∃c,x=.bl c/\Q (.bl (!c)) H1
theorem a3f{op}{t:TE}(h:PE X a t):PE X (.BoolOp op [a] pos) t:=.mk <|fun pins s σ H Q I hw=> BoolOp_one (h pins s σ H Q I hw)
theorem a6e(ha:PE X a ta)(hb:PE X (.BoolOp .And (b::jt) pos) tb):PE X (.BoolOp .And (a::b::jt) pos) (a8h ta tb):=by
 (first|refine⟨?_⟩|skip);intro pins s σ H Q I h
 refine BoolOp_and (thn (ha pins s σ H _ I h) fun v s1 ⟨x,H1,I1,r1,q1⟩=> ?_)
 obtain⟨c,rfl,q1⟩:=q1
 cases r1
 refine cC ?_
 cases c with
 |true=> exact hb pins s1 σ H1 Q I1 q1
 |false=> exact⟨.bl false,H1,I1,rfl,q1⟩
theorem a79(ha:PE X a ta)(hb:PE X (.BoolOp .Or (b::jt) pos) tb):PE X (.BoolOp .Or (a::b::jt) pos) (a96 ta tb):=by
 (first|refine⟨?_⟩|skip);intro pins s σ H Q I h
 refine BoolOp_or (thn (ha pins s σ H _ I h) fun v s1 ⟨x,H1,I1,r1,q1⟩=> ?_)
 obtain⟨c,rfl,q1⟩:=q1
 cases r1
 refine cC ?_
 cases c with
 |false=> exact hb pins s1 σ H1 Q I1 q1
 |true=> exact⟨.bl true,H1,I1,rfl,q1⟩
theorem a5o(ha:PE X a ta):PE X (.UnaryOp .Not a pos) (a75 ta):=by
 (first|refine⟨?_⟩|skip);intro pins s σ H Q I h
 refine UnaryOp_ (thn (ha pins s σ H _ I h) fun v s1 ⟨x,H1,I1,r1,q1⟩=> ?_)
 obtain⟨c,rfl,q1⟩:=q1
 cases r1
 exact not_of (cC ⟨.bl (!c),H1,I1,rfl,q1⟩)
noncomputable def tIf(t:TT)(ta tb:TE):TE:=fun σ H Q=> t σ H fun c H1=> if c=true then ta σ H1 Q else tb σ H1 Q
theorem avi{c:Expr}(hc:PT X c tA)(ha:PE X a ta)(hb:PE X b tb):PE X (.IfExp c a b pos) (tIf tA ta tb):=by
 (first|refine⟨?_⟩|skip);intro pins s σ H Q I h
 refine wpAny_IfExp (thn (hc pins s σ H _ I h) fun d s1 ⟨H1,I1,q1⟩=> ?_)
 cases d with
 |true=> exact ha pins s1 σ H1 Q I1 q1
 |false=> exact hb pins s1 σ H1 Q I1 q1
end
def SqL(K:am)(H:Hp)(a:Addr)(xs:List V):Prop:=
 Rd H a (.lst xs)\/
  ∃(o:Obj) (its:Array af) (n:Nat),K.lookup a=some o/\o.cls=.type "list"/\o.dict=none/\o.data=.seq its n/\its.size <=sizeLine/\jm xs its.toList
def SqT(K:am)(H:Hp)(a:Addr)(xs:List V):Prop:=
 Rd H a (.tup xs)\/
  ∃(o:Obj) (its:Array af) (n:Nat),K.lookup a=some o/\o.cls=.type "tuple"/\o.data=.seq its n/\its.size <=sizeLine/\jm xs its.toList
noncomputable def a9p:af -> Option V
 |.none=> some .non
 |.bool b=> some (.bl b)
 |.int i _=> some (.int i)
 |.str x _=> some (.str x)
 |.bytes b _=> some (.byt b)
 |.float b _=> some (.flt b)
 |.ref a=> some (.ref a)
 |.type n=> some (.ty n)
 |_=> none
theorem RelV.abs{x:V}(r:RelV x u):a9p u=some x:=by
 cases x with
 |non=> cases r;rfl
 |bl _=> cases r;rfl
 |int _=> obtain⟨t,rfl⟩:=r;rfl
 |str _=> obtain⟨t,rfl⟩:=r;rfl
 |byt _=> obtain⟨t,rfl⟩:=r;rfl
 |flt _=> obtain⟨t,rfl⟩:=r;rfl
 |ref _=> cases r;rfl
 |ty _=> cases r;rfl
theorem RelV.inj{x y:V}(r:RelV x u)(q:RelV y u):x=y:=cq (r.abs.symm.trans q.abs)
theorem jm.inj: ∀{xs ys:List V} {us:List af},jm xs us -> jm ys us -> xs=ys
 |_,_,_,.nil,.nil=> rfl
 |_,_,_,.cons r t,.cons r' t'=> by rw [r.inj r',jm.inj t t']
section
variable{X:Cx}{pins:List (Addr×Obj)}{σ:St}{H:Hp}{s:ak}{a:Addr}{xs ys:List V}
theorem SqL.of(h:H a=some (.lst xs)):SqL K H a xs:=.inl (.inl h)
theorem SqT.of(h:H a=some (.tup xs)):SqT K H a xs:=.inl (.inl h)
theorem Inv.list(I:Inv X pins σ H s)(h:SqL X.K H a xs): ∃its:List af,jm xs its/\PlainL s.heap a its.toArray/\xs.length <=sizeLine:=by
 rcases h with h|⟨o,its,n,hk,hc,hd,hs,hz,r⟩
 ·obtain⟨z,its,n,r,e⟩:=h.ok I.hok
  exact⟨its,r,⟨_,n,e,rfl,rfl,rfl⟩,z⟩
 ·refine⟨its.toList,r,⟨o,n,I.kIn a o hk,hc,hd,by simpa using hs⟩,?_⟩
  have e:=r.length
  simp only [aK]at e
  lia
theorem Inv.tuple(I:Inv X pins σ H s)(h:SqT X.K H a xs): ∃its:List af,jm xs its/\IsTup s.heap a its.toArray/\xs.length <=sizeLine:=by
 rcases h with h|⟨o,its,n,hk,hc,hs,hz,r⟩
 ·obtain⟨z,its,r,p⟩:=h.ok I.hok
  exact⟨its,r,p.tup,z⟩
 ·refine⟨its.toList,r,⟨o,I.kIn a o hk,hc,n,by simpa using hs⟩,?_⟩
  have e:=r.length
  simp only [aK]at e
  lia
theorem Inv.list_inj(I:Inv X pins σ H s)(h:SqL X.K H a xs)(h':SqL X.K H a ys):xs=ys:=by
 obtain⟨its,r,⟨o,n,e,_,_,d⟩,_⟩:=I.list h
 obtain⟨its',r',⟨o',n',e',_,_,d'⟩,_⟩:=I.list h'
 rw [e]at e';cases e'
 rw [d]at d'
 injection d' with d1 _
 have:its=its':=by simpa using congrArg Array.toList d1
 subst this
 exact r.inj r'
theorem Inv.tuple_inj(I:Inv X pins σ H s)(h:SqT X.K H a xs)(h':SqT X.K H a ys):xs=ys:=by
 obtain⟨its,r,⟨o,e,_,n,d⟩,_⟩:=I.tuple h
 obtain⟨its',r',⟨o',e',_,n',d'⟩,_⟩:=I.tuple h'
 rw [e]at e';cases e'
 rw [d]at d'
 injection d' with d1 _
 have:its=its':=by simpa using congrArg Array.toList d1
 subst this
 exact r.inj r'
end
section
variable{X:Cx}{st:Stmt}{jt:List Stmt}{t u:TS}{e:Expr}{te:TE}{pos:Pos}
noncomputable def a8d:TS:=fun D σ H=> D.nx σ H
noncomputable def a4s(t u:TS):TS:=fun D σ H=> t {D with nx:=u D} σ H
theorem a05:PSs X [] a8d:=.mk <|fun _ _ σ H _ I h=> hX ⟨σ,H,I,h⟩
theorem axq(h1:PS X st t)(h2:PSs X jt u):PSs X (st::jt) (a4s t u):=by
 (first|refine⟨?_⟩|skip);intro pins s σ H D I h
 refine wpAny_execs_cons (thn (h1 pins s σ H {D with nx:=u D} I h) fun f s1 q=> ?_)
 cases f with
 |next=>
  obtain⟨σ',H',I',q⟩:=q
  exact h2 pins s1 σ' H' D I' q
 |ret v=> exact q
 |brk=> exact q
 |cont=> exact q
theorem a2i(h1:PS X st t):PSs X [st] t:=by
 (first|refine⟨?_⟩|skip);intro pins s σ H D I h
 refine wpAny_execs_cons (thn (h1 pins s σ H D I h) fun f s1 q=> ?_)
 cases f with
 |next=> exact hX q
 |ret v=> exact q
 |brk=> exact q
 |cont=> exact q
theorem Inv.quiet{σ:St}{H:Hp}(I:Inv X pins σ H s):interactive X.env=false:=by simp [interactive,I.ok.kind]
noncomputable def a7q(te:TE):TS:=fun D σ H=> te σ H fun _ H1=> D.nx σ H1
theorem a2q(he:PE X e te)(hs:gf e none pos.line X.env=pure false:=by rfl):PS X (.Expr e pos) (a7q te):=by
 (first|refine⟨?_⟩|skip);intro pins s σ H D I h
 exact wpAny_Expr_any (thn (he pins s σ H _ I h) fun v s1 ⟨x,H1,I1,r1,q1⟩=> ⟨σ,H1,I1,q1⟩) I.quiet hs
noncomputable def a93(te:TE):TS:=fun D σ H=> te σ H D.rt
theorem a66(he:PE X e te):PS X (.Return (some e) pos) (a93 te):=by
 (first|refine⟨?_⟩|skip);intro pins s σ H D I h
 exact wpAny_Return_some (thn (he pins s σ H _ I h) fun v s1 ⟨x,H1,I1,r1,q1⟩=> ⟨x,σ,H1,I1,r1,q1⟩)
noncomputable def a8z(c:TT)(t u:TS):TS:=fun D σ H=> c σ H fun b H1=> if b=true then t D σ H1 else u D σ H1
theorem a7d{c:Expr}{a b:List Stmt}{tc:TT}(hc:PT X c tc)(ha:PSs X a t)(hb:PSs X b u):PS X (.If c a b pos) (a8z tc t u):=by
 (first|refine⟨?_⟩|skip);intro pins s σ H D I h
 refine wpAny_If (thn (hc pins s σ H _ I h) fun d s1 ⟨H1,I1,q1⟩=> ?_)
 cases d with
 |true=> exact ha pins s1 σ H1 D I1 q1
 |false=> exact hb pins s1 σ H1 D I1 q1
end
abbrev TG:=V -> St -> Hp -> (St -> Hp -> Prop) -> Prop
abbrev TGs:=List V -> St -> Hp -> (St -> Hp -> Prop) -> Prop
def PG(X:Cx)(target:Expr)(t:TG):Prop:=
 ∀(pins:List (Addr×Obj)) (s:ak) (σ:St) (H:Hp) (v:V) (u:af) (Q:St -> Hp -> Prop),Inv X pins σ H s -> RelV v u -> t v σ H Q ->
  wpAny (model X.prog X.w) X.A (assign target X.env u) (fun _ s'=> ∃σ' H',Inv X pins σ' H' s'/\Q σ' H') X.xe s
def PGs(X:Cx)(ts:List Expr)(t:TGs):Prop:=
 ∀(pins:List (Addr×Obj)) (s:ak) (σ:St) (H:Hp) (vs:List V) (us:List af) (Q:St -> Hp -> Prop),Inv X pins σ H s -> jm vs us -> t vs σ H Q ->
  wpAny (model X.prog X.w) X.A (assignInOrder ((bF ts X.env).map (·.2)) us) (fun _ s'=> ∃σ' H',Inv X pins σ' H' s'/\Q σ' H') X.xe s
abbrev arf:=V -> V -> V -> Hp -> (Hp -> Prop) -> Prop
def aj7(X:Cx)(t:arf):Prop:=
 ∀(pins:List (Addr×Obj)) (s:ak) (σ:St) (H:Hp) (o i v:V) (ov iv u:af) (Q:Hp -> Prop),Inv X pins σ H s -> RelV o ov -> RelV i iv -> RelV v u -> t o i v H Q ->
  wpAny (model X.prog X.w) X.A (setItem ov iv u) (fun _ s'=> ∃H',Inv X pins σ H' s'/\Q H') X.xe s
abbrev TIp:=V -> V -> Hp -> VK -> Prop
def PIp(X:Cx)(op:lV)(t:TIp):Prop:=
 ∀(pins:List (Addr×Obj)) (s:ak) (σ:St) (H:Hp) (x y:V) (v u:af) (Q:VK),Inv X pins σ H s -> RelV x v -> RelV y u -> t x y H Q ->
  wpAny (model X.prog X.w) X.A (inplaceOp op v u) (EP X pins σ Q) X.xe s
section
variable{X:Cx}{pos:Pos}
noncomputable def alk(i:Nat):TG:=fun v σ H Q=> Q (σ.set i (some v)) H
theorem a18{x:Str}(hN:X.N.Nodup)(hi:X.N[i]?=some x)(hx:Loc X.env.scope x)(hf:X.fn x=true\/X.env.scope.names.lookup x=some .local:=by first|exact .inl rfl|exact .inr rfl|assumption):PG X (.Name x pos) (alk i):=by
 (first|refine⟨?_⟩|skip);intro pins s σ H v u Q I r h
 exact wpAny_assign_Name (ahk I hN hi hx r (fun s' I'=> ⟨_,H,I',h⟩) hf)
noncomputable def aqn:TGs:=fun vs σ H Q=> vs=[]/\Q σ H
noncomputable def aeg(t:TG)(u:TGs):TGs:=fun vs σ H Q=> ∃v r,vs=v::r/\t v σ H fun σ' H'=> u r σ' H' Q
theorem aor:PGs X [] aqn:=by
 (first|refine⟨?_⟩|skip);intro pins s σ H vs us Q I r h
 obtain⟨e,h⟩:=h
 subst e
 cases r
 exact assignInOrder_nil ⟨σ,H,I,h⟩
theorem aci{es:List Expr}{t:TG}{u:TGs}(h1:PG X e t)(h2:PGs X es u)(hs:(bF (e::es) X.env).map (·.2)=assign e X.env::(bF es X.env).map (·.2):=by rfl):PGs X (e::es) (aeg t u):=by
 (first|refine⟨?_⟩|skip);intro pins s σ H vs us Q I r h
 obtain⟨v,vr,e1,h⟩:=h
 subst e1
 cases r with
 |cons r rr=>
  rw [hs]
  refine assignInOrder_cons (thn (h1 pins s σ H _ _ _ I r h) fun _ s1 ⟨σ1,H1,I1,q1⟩=> ?_)
  exact h2 pins s1 σ1 H1 _ _ Q I1 rr q1
noncomputable def a9m(K:am)(n:Nat)(t:TGs):TG:=fun v σ H Q=> ∃a xs,v=.ref a/\SqT K H a xs/\xs.length=n/\t xs σ H Q
theorem a6k{es:List Expr}{k:Nat}{t:TGs}{n:Nat}(hc:X.calm=true)(h:PGs X es t)
  (hn:(bF es X.env).length=n:=by rfl) (hst:(bF es X.env).findIdx? (·.1)=none:=by rfl):PG X (.Tuple es k pos) (a9m X.K n t):=by
 (first|refine⟨?_⟩|skip);intro pins s σ H v u Q I r hw
 obtain⟨a,xs,e1,hq,hl,hw⟩:=hw
 subst e1
 cases r
 obtain⟨its,rv,ht,hz⟩:=I.tuple hq
 refine assign_Tuple_tuple (I.ok.hd hc) ht (by simp [hn,←hl,rv.length]) hst fun h' hx=> ?_
 have I1:Inv X pins σ H {s with heap:=h'}:=I.kept (t':=s.toks) fun b o e=> hx b o (aR (ay e)) e
 exact h pins _ σ H xs _ Q I1 (by simpa using rv) hw
noncomputable def y3(to ti:TE)(t:arf):TG:=fun v σ H Q=> to σ H fun o H1=> ti σ H1 fun i H2=> t o i v H2 fun H3=> Q σ H3
theorem a4p{o i:Expr}{to ti:TE}{t:arf}(ho:PE X o to)(hi:PE X i ti)(hs:aj7 X t)
  (ha: ∀v,assign (.Subscript o i pos) X.env v=(do
   let ov←holding [v] (eval o X.env)
   let iv←holding [v,ov] (eval i X.env)
   standAt pos
   holding [v,ov,iv] (setItem ov iv v)
   release [v,ov,iv] []):=by intro _;rfl):PG X (.Subscript o i pos) (y3 to ti t):=by
 (first|refine⟨?_⟩|skip);intro pins s σ H v u Q I r h
 rw [ha]
 refine ae (bC (thn (ho pins s σ H _ I h) fun ov s1 ⟨x,H1,I1,r1,q1⟩=> ?_))
 refine ae (bC (thn (hi pins s1 σ H1 _ I1 q1) fun iv s2 ⟨y,H2,I2,r2,q2⟩=> ?_))
 refine ae (fQ (ae (bC (thn (hs pins s2 σ H2 x y v ov iv u _ I2 r1 r2 r q2) fun _ s3 ⟨H3,I3,q3⟩=> ?_))))
 exact wpAny_release ⟨σ,H3,I3,q3⟩
noncomputable def a4u(te:TE)(g:TG):TS:=fun D σ H=> te σ H fun x H1=> g x σ H1 D.nx
theorem asn{te:TE}{g:TG}(he:PE X e te)(hg:PG X tg g)(hs:mf [tg] e pos.line X.env=pure false:=by rfl)(hw:mh [tg] e X.env=pure none:=by rfl)(h1:(bF [tg] X.env).map (·.2)=[assign tg X.env]:=by rfl):PS X (.Assign [tg] e pos) (a4u te g):=by
 (first|refine⟨?_⟩|skip);intro pins s σ H D I h
 refine wpAny_Assign_stores (thn (he pins s σ H _ I h) fun v s1 ⟨x,H1,I1,r1,q1⟩=> ?_) hs hw
 rw [h1]
 exact thn (hg pins s1 σ H1 x v _ I1 r1 q1) fun _ s2 q=> q
theorem a5t{x:Str}{te:TE}{pos':Pos}(hN:X.N.Nodup)(hi:X.N[i]?=some x)(hx:Loc X.env.scope x)(he:PE X e te)(hs:gf e (some (.Name x pos')) pos.line X.env=pure false:=by rfl)(hf:X.fn x=true\/X.env.scope.names.lookup x=some .local:=by first|exact .inl rfl|exact .inr rfl|assumption):
  PS X (.Assign [.Name x pos'] e pos) (a4u te (alk i)):=by
 (first|refine⟨?_⟩|skip);intro pins s σ H D I h
 refine wpAny_Assign_Name (thn (he pins s σ H _ I h) fun v s1 ⟨y,H1,I1,r1,q1⟩=> ?_) hs
 exact ahk I1 hN hi hx r1 (fun s2 I2=> ⟨_,H1,I2,q1⟩) hf
noncomputable def a8y(i:Nat)(te:TE)(ti:TIp):TS:=fun D σ H=> ∃x,σ[i]?=some (some x)/\te σ H fun y H1=> ti x y H1 fun z H2=> D.nx (σ.set i (some z)) H2
theorem a3i{x:Str}{te:TE}{op:lV}{ti:TIp}{pos':Pos}(hN:X.N.Nodup)(hi:X.N[i]?=some x)(hx:Loc X.env.scope x)(he:PE X e te)(ho:PIp X op ti)(hf:X.fn x=true\/X.env.scope.names.lookup x=some .local:=by first|exact .inl rfl|exact .inr rfl|assumption):
  PS X (.AugAssign (.Name x pos') op e pos) (a8y i te ti):=by
 (first|refine⟨?_⟩|skip);intro pins s σ H D I h
 obtain⟨v,e1,h⟩:=h
 obtain⟨m,hn,hl⟩:=I.loc
 have vis:Vis X.env.scope x:=by rcases hx with k|k;exact .inl k;exact .inr (.inl k)
 obtain⟨u,r,l⟩:=hl i x v hi e1 vis
 refine wpAny_AugAssign_Name ?_
 have go:wpAny (model X.prog X.w) X.A (eval e X.env) (fun w s₂=> wpAny (model X.prog X.w) X.A (inplaceOp op u w) (fun r s₃=> wpAny (model X.prog X.w) X.A (storeName X.env x r) (fun _=> SP X pins D .next) X.xe s₃) X.xe s₂) X.xe s:=by
  refine thn (he pins s σ H _ I h) fun w s1 ⟨y,H1,I1,r1,q1⟩=> ?_
  refine thn (ho pins s1 σ H1 v y u w _ I1 r r1 q1) fun z s2 ⟨zv,H2,I2,r2,q2⟩=> ?_
  exact ahk I2 hN hi hx r2 (fun s3 I3=> ⟨_,H2,I3,q2⟩) hf
 rcases l with ⟨hk,hm⟩|⟨hk,c,hc,hcell⟩
 ·exact lU I.ok.kind hk hn hm go
 ·rcases hk with hk|hk
  ·exact mC I.ok.kind hk hc hcell go
  ·rcases hx with k|k
   ·have:X.env.scope.names.lookup x=some .free:=hk
    rw [k]at this;cases this
   ·have:X.env.scope.names.lookup x=some .free:=hk
    rw [k]at this;cases this
noncomputable def ipI(f:Int -> Int -> Int):TIp:=fun x y H Q=> ∃i j,x=.int i/\y=.int j/\Q (.int (f i j)) H
theorem a4j:PIp X .Add (ipI fun i j=> i+j):=by
 (first|refine⟨?_⟩|skip);intro pins s σ H x y v u Q I r1 r2 h
 obtain⟨i,j,e1,e2,q⟩:=h
 subst e1;subst e2
 obtain⟨t,rfl⟩:=r1
 obtain⟨t',rfl⟩:=r2
 exact iadd_int ⟨.int _,H,I.tok _,⟨_,rfl⟩,q⟩
end
structure It where
 go:Nat -> Hp -> Prop
 yld:Nat -> Hp -> V -> Hp -> Prop
 stop:Nat -> Hp -> Prop
def ack(X:Cx)(pins:List (Addr×Obj))(H:Hp)(b:Addr):Prop:=
 H b=none/\b≠X.env.locals/\b∉X.fs/\(b∈X.ex\/X.s₀.heap.objs.size <=b)/\(∀x c,X.env.cells.lookup x=some c -> c≠b)/\ ∀p∈X.pn++pins,p.1≠b
theorem Inv.fpOk{X:Cx}{σ:St}{H H':Hp}(I:Inv X pins σ H s)(hb:s.heap.objs.size <=b)(hn:H' b=none):ack X pins H' b:=by
 refine⟨hn,dR (aU I.lt hb),I.nofs hb,.inr (aH I.sz hb),fun x c e z=> ?_,fun p hp z=> ?_⟩
 ·obtain⟨v,q⟩:=I.cell x c e
  exact absurd (aU q.lt (by rw [z];exact hb)) (cO _)
 ·exact absurd (aU (ay (I.pin p hp).1) (by rw [z];exact hb)) (cO _)
structure Turn (P:aT) (w:aX) (K:am) (tg:Expr) (J:It) (fp:List Addr) (it:Addr) (tn:Nat -> Heap -> Prop):Prop where
 mem:it∈fp
 obj: ∀i h,tn i h -> ∀b∈fp,∃o,h.get? b=some o/\ ∀v,o.data≠ .cell v
 keep: ∀i h h',tn i h -> (∀b∈fp,∀o,h.get? b=some o -> h'.get? b=some o) -> tn i h'
 item: ∀(X:Cx),X.prog=P -> X.w=w -> X.K=K -> X.calm=true -> ∀(i:Nat) (pins:List (Addr×Obj)) (s:ak) (σ:St) (H:Hp) (E:af -> ak -> Prop),Inv X pins σ H s -> (∀b∈fp,ack X pins H b) -> tn i s.heap -> J.go i H ->
  wpAny (model P w) X.A (pyNext (.ref it)) (fun r s1=> ∃u,r=some u/\
   wpAny (model P w) X.A (hZ tg (.ref it) u) (fun _ s2=> ∃x H',Inv X pins σ H' s2/\RelV x u/\J.yld i H x H'/\tn (i+1) s2.heap/\ ∀b∈fp,H' b=none) E s1) E s
 done: ∀(X:Cx),X.prog=P -> X.w=w -> X.K=K -> X.calm=true -> ∀(i:Nat) (pins:List (Addr×Obj)) (s:ak) (σ:St) (H:Hp) (E:af -> ak -> Prop),Inv X pins σ H s -> (∀b∈fp,ack X pins H b) -> tn i s.heap -> J.stop i H ->
  wpAny (model P w) X.A (pyNext (.ref it)) (fun r s1=> r=none/\Inv X pins σ H s1) E s
 self: ∀(A:bj) (i:Nat) (s:ak) (Q:af -> ak -> Prop) (E:af -> ak -> Prop),tn i s.heap -> Q (.ref it) s -> wpAny (model P w) A (pyIter (.ref it)) Q E s
abbrev TI:=St -> Hp -> (It -> Hp -> Prop) -> Prop
def PIE(X:Cx)(pins:List (Addr×Obj))(σ:St)(tg:Expr)(R:It -> Hp -> Prop)(itv:af)(s2:ak):Prop:=
 ∃(it:Addr) (fp:List Addr) (tn:Nat -> Heap -> Prop) (J:It) (H':Hp),itv=.ref it/\Inv X pins σ H' s2/\Turn X.prog X.w X.K tg J fp it tn/\tn 0 s2.heap/\(∀b∈fp,ack X pins H' b)/\R J H'
def PI(X:Cx)(tg iter:Expr)(wi:TI):Prop:=
 ∀(pins:List (Addr×Obj)) (s:ak) (σ:St) (H:Hp) (R:It -> Hp -> Prop),Inv X pins σ H s -> wi σ H R ->
  wpAny (model X.prog X.w) X.A (eval iter X.env) (fun v s1=> wpAny (model X.prog X.w) X.A (pyIter v) (PIE X pins σ tg R) X.xe s1) X.xe s
theorem alp{it:Addr}{o:Obj}{n:String}{vs:Array af}(ho:s.heap.get? it=some o)(hc:o.cls=.type n)(hd:o.data=.fields vs)(hn:["enumerate","zip","dict_itemiterator","dict_reverseitemiterator","odict_iterator","itertools.zip_longest","itertools.pairwise"].contains n=false)(hQ:Q () s):wpAny M A (hZ tg (.ref it) u) Q E s:=by
 unfold hZ
 cases tg <;> first
  |exact ah hQ
  | (cases u <;> first
    |exact ah hQ
    | (refine ae (jL ho ?_)
       rw [hc,hd]
       show wpAny M A (if (["enumerate","zip","dict_itemiterator","dict_reverseitemiterator","odict_iterator","itertools.zip_longest","itertools.pairwise"].contains n&&vs[0]?==some (rawInt _))=true then _ else _) Q E s
       rw [if_neg (by intro h;rw [hn,fy]at h;cases h)]
       exact ah hQ))
noncomputable def Itl(K:am)(a:Addr):It:=
 ⟨fun i H=> ∃xs x,SqL K H a xs/\xs[i]?=some x,fun i H x H'=> H'=H/\ ∀xs,SqL K H a xs -> xs[i]?=some x,fun i H=> ∃xs,SqL K H a xs/\xs.length <=i⟩
noncomputable def Itt(K:am)(a:Addr):It:=
 ⟨fun i H=> ∃xs x,SqT K H a xs/\xs[i]?=some x,fun i H x H'=> H'=H/\ ∀xs,SqT K H a xs -> xs[i]?=some x,fun i H=> ∃xs,SqT K H a xs/\xs.length <=i⟩
noncomputable def Itr(lo:Int)(n:Nat):It:=⟨fun i _=> i < n,fun i H x H'=> H'=H/\x=.int (lo+i),fun i _=> n <=i⟩
theorem atu(a it:Addr):Turn P w K tg (Itl K a) [it] it (fun i h=> h.IsListIter it a i) where
 mem:=by simp
 obj:=fun i h st b hb=> by
  have e:b=it:=by simpa using hb
  subst e
  obtain⟨o,e,c,d⟩:=st
  exact⟨o,e,fun v z=> by rw [d]at z;cases z⟩
 keep:=fun i h h' st k=> st.at fun o e=> k it (by simp) o e
 item:=by
  intro X hP hw hK hc i pins s σ H E I hf st hg
  subst hP hw hK
  obtain⟨xs,x,hq,hx⟩:=hg
  obtain⟨its,rv,p,hz⟩:=I.list hq
  obtain⟨u,hu,ru⟩:=rv.get hx
  obtain⟨f0,f1,f2,f3,f4,f5⟩:=hf it (by simp)
  refine lq st p.isList (x:=u) (by simpa using hu) fun h' st' sb=> ?_
  have I1:Inv X pins σ H {s with heap:=h'}:=I.turned (t':=s.toks) (fun b o hb e=> (sb.2 b hb).trans e) f0 f1 f3 f4 f5
  obtain⟨o,e,c,d⟩:=id st'
  exact⟨u,rfl,alp (s:={s with heap:=h'}) e c d (by decide) ⟨x,H,I1,ru,⟨rfl,fun ys hy=> by rw [I.list_inj hy hq];exact hx⟩,st',fun b hb=> (hf b hb).1⟩⟩
 done:=by
  intro X hP hw hK hc i pins s σ H E I hf st hg
  subst hP hw hK
  obtain⟨xs,hq,hx⟩:=hg
  obtain⟨its,rv,p,hz⟩:=I.list hq
  obtain⟨f0,f1,f2,f3,f4,f5⟩:=hf it (by simp)
  have hl:=rv.length
  exact lB (I.ok.hd hc) st p.isList (by simp;lia) fun h' eb=> ⟨rfl,I.turned (t':=s.toks) (fun b o hb e=> eb b o hb e) f0 f1 f3 f4 f5⟩
 self:=fun _ _ _ _ _ st h=> wpAny_pyIter_listiter st h
theorem ase(a it:Addr):Turn P w K tg (Itt K a) [it] it (fun i h=> h.IsTupleIter it a i) where
 mem:=by simp
 obj:=fun i h st b hb=> by
  have e:b=it:=by simpa using hb
  subst e
  obtain⟨o,e,c,d⟩:=st
  exact⟨o,e,fun v z=> by rw [d]at z;cases z⟩
 keep:=fun i h h' st k=> st.at fun o e=> k it (by simp) o e
 item:=by
  intro X hP hw hK hc i pins s σ H E I hf st hg
  subst hP hw hK
  obtain⟨xs,x,hq,hx⟩:=hg
  obtain⟨its,rv,p,hz⟩:=I.tuple hq
  obtain⟨u,hu,ru⟩:=rv.get hx
  obtain⟨f0,f1,f2,f3,f4,f5⟩:=hf it (by simp)
  refine wpAny_pyNext_tuple_item st (show s.heap.IsTuple a its.toArray from p) (x:=u) (by simpa using hu) fun h' st' sb=> ?_
  have I1:Inv X pins σ H {s with heap:=h'}:=I.turned (t':=s.toks) (fun b o hb e=> (sb.2 b hb).trans e) f0 f1 f3 f4 f5
  obtain⟨o,e,c,d⟩:=id st'
  exact⟨u,rfl,alp (s:={s with heap:=h'}) e c d (by decide) ⟨x,H,I1,ru,⟨rfl,fun ys hy=> by rw [I.tuple_inj hy hq];exact hx⟩,st',fun b hb=> (hf b hb).1⟩⟩
 done:=by
  intro X hP hw hK hc i pins s σ H E I hf st hg
  subst hP hw hK
  obtain⟨xs,hq,hx⟩:=hg
  obtain⟨its,rv,p,hz⟩:=I.tuple hq
  obtain⟨f0,f1,f2,f3,f4,f5⟩:=hf it (by simp)
  have hl:=rv.length
  exact wpAny_pyNext_tuple_end (I.ok.hd hc) st (show s.heap.IsTuple a its.toArray from p) (by simp;lia) fun h' eb=> ⟨rfl,I.turned (t':=s.toks) (fun b o hb e=> eb b o hb e) f0 f1 f3 f4 f5⟩
 self:=fun _ _ _ _ _ st h=> wpAny_pyIter_tupleiter st h
theorem aro(it:Addr)(lo:Int)(n:Nat):Turn P w K tg (Itr lo n) [it] it (fun i h=> IsRangeIter h it (lo+(i:Nat)*1) ((n:Int) - (i:Nat)) 1) where
 mem:=by simp
 obj:=fun i h st b hb=> by
  have e:b=it:=by simpa using hb
  subst e
  exact⟨_,st,fun v z=> by
   have z':Data.fields _=Data.cell v:=z
   cases z'⟩
 keep:=fun i h h' st k=> k it (by simp) _ st
 item:=by
  intro X hP hw hK hc i pins s σ H E I hf st hg
  subst hP hw hK
  obtain⟨f0,f1,f2,f3,f4,f5⟩:=hf it (by simp)
  have W:=Walks.range (prog:=X.prog) (w:=X.w) (I.ok.hd hc) it lo 1 n
  refine W.item i s _ _ hg st fun v h' tk hv st' kk=> ?_
  obtain⟨t,rfl⟩:=hv
  have I1:Inv X pins σ H {s with heap:=h',toks:=tk}:=I.turned (fun b o hb e=> kk b o (by simpa using hb) e) f0 f1 f3 f4 f5
  refine⟨_,rfl,alp (s:={s with heap:=h',toks:=tk}) (n:="range_iterator") st' rfl rfl (by decide) ⟨.int (lo+i),H,I1,⟨t,?_⟩,⟨rfl,rfl⟩,st',fun b hb=> (hf b hb).1⟩⟩
  rw [Int.mul_one]
 done:=by
  intro X hP hw hK hc i pins s σ H E I hf st hg
  subst hP hw hK
  obtain⟨f0,f1,f2,f3,f4,f5⟩:=hf it (by simp)
  exact wpAny_pyNext_range_end (I.ok.hd hc) st (by have:n <=i:=hg;lia) fun h' eb=> ⟨rfl,I.turned (t':=s.toks) (fun b o hb e=> eb b o hb e) f0 f1 f3 f4 f5⟩
 self:=fun _ _ _ _ _ st h=> wpAny_pyIter_rangeiter st h
end L2
variable{pins pins':List (ej×PySem.Obj)}{σ:L2.St}{H H':L2.Hp}{s:f9}{E Q:dw -> f9 -> Prop}{t:nA}{v:L2.V}{a p C f I:ej}{ta tb te:L2.TE}{pos:PySem.Pos}{fp:List ej}{h base:PySem.Heap}{b iter c tg e:jK}{o:L2.HO}{op:PySem.CmpOp}{i j k n ep:Nat}{xs ys:List L2.V}{its us:List dw}{dx:Option ej}{mA mg:iO -> Option dw}{K:am}{A:mN}{P prog:md}{w:nj}{fd:PySem.FuncData}{ps N:List iO}{qual name:iO}{scope:PySem.Scope}{osl:Array (Option dw)}{items:Array dw}{T:String}{st:PySem.Stmt}{env:PySem.Env}{X:L2.Cx}{es:List jK}{M:PySem.Model}
namespace L2
open PySem PySem.Spec PyProof.Rows
theorem axz{R:It -> Hp -> Prop}{lo hi:Int}{t u v:Tok}{tk:Nat}(I:Inv X pins σ H s)(h1: -(2^62) <=lo)(h2:lo < 2^62)(h3: -(2^62) <=hi)(h4:hi < 2^62)(q:R (Itr lo (hi - lo).toNat) H):wpAny (model X.prog X.w) X.A (pyIter (.ref s.heap.objs.size)) (PIE X pins σ tg R) E {s with heap:=s.heap.push {cls:=.type "range",data:=.fields #[.int lo t,.int hi u,.int 1 v]},toks:=tk}:=by
 refine wpAny_pyIter_range (IsRange.new ..) (small_one h1 h2 h3 h4) ?_
 have I1:Inv X pins σ H {s with heap:=s.heap.push {cls:=.type "range",data:=.fields #[.int lo t,.int hi u,.int 1 v]},toks:=tk}:=I.kept fun b o e=> aj _ e
 refine⟨(s.heap.push {cls:=.type "range",data:=.fields #[.int lo t,.int hi u,.int 1 v]}).objs.size,[(s.heap.push {cls:=.type "range",data:=.fields #[.int lo t,.int hi u,.int 1 v]}).objs.size],_,_,H,rfl,
  I1.kept (t':=tk) fun b o e=> aj _ e,aro _ lo (hi - lo).toNat,?_,fun b hb=> ?_,q⟩
 ·have e1:lo+((0:Nat):Int)*1=lo:=by simp
  have e2:(((hi - lo).toNat:Nat):Int) - ((0:Nat):Int)=Builtin.Range.rangeSize lo hi 1:=by rw [rangeSize_one];split <;> lia
  show IsRangeIter _ _ (lo+((0:Nat):Int)*1) ((((hi - lo).toNat:Nat):Int) - ((0:Nat):Int)) 1
  rw [e1,e2]
  exact aA _ rfl
 ·have e:b=(s.heap.push {cls:=.type "range",data:=.fields #[.int lo t,.int hi u,.int 1 v]}).objs.size:=by simpa using hb
  subst e
  exact I1.fpOk (au _) (I1.hok.fresh (au _))
def a6x(ta:TA):TI:=fun σ H R=> ta σ H fun vs H1=> ∃j:Int,vs=[.int j]/\ -(2^62) <=j/\j < 2^62/\R (Itr 0 j.toNat) H1
theorem ate{a:Expr}{ta:TA}{p:Pos}(hg:Gl X "range")(hm:X.mg "range"=none)(ha:PA X [a] ta)(hs:starEach [a] X.env=[(false,eval a X.env)]:=by rfl):PI X tg (.Call (.Name "range" p) [a] [] pos) (a6x ta):=by
 (first|refine⟨?_⟩|skip);intro pins s σ H R I h
 refine Call_ (aco I hg hm boot_range (dS (thn (ha pos pins s σ H _ I h) fun us s1 ⟨vs,H1,I1,r1,q1⟩=> ?_) hs rfl))
 obtain⟨j,e,q1,q2,q⟩:=q1
 subst e
 cases r1 with
 |cons r rr=>
  cases rr
  obtain⟨t,rfl⟩:=r
  exact call_range_1 (axz I1 (by lia) (by lia) q1 q2 (by simpa using q))
noncomputable def ba8(wi:TI)(g:TG)(tb:TS):TS:=fun D σ H=> wi σ H fun J H1=> ∃W:Nat -> Nat -> St -> Hp -> Prop,(∃m,W 0 m σ H1)/\ ∀i m σ H,W i m σ H ->
 (J.stop i H/\D.nx σ H)\/(J.go i H/\ ∃N:St -> Hp -> Prop,(∀σ' H',N σ' H' -> ∃m',m' < m/\W (i+1) m' σ' H')/\ ∀x H',J.yld i H x H' -> g x σ H' fun σ2 H2=> tb {D with nx:=N,ct:=N,bk:=D.nx} σ2 H2)
noncomputable def afl(fp:List Addr)(h:Heap):List (Addr×Obj):=fp.filterMap fun b=> (h.get? b).map fun o=> (b,o)
theorem aby{b:Addr}{o:Obj}(hb:b∈fp)(e:h.get? b=some o):(b,o)∈afl fp h:=iP.mpr ⟨b,hb,by rw [e];rfl⟩
theorem at4{p:Addr×Obj}(hp:p∈afl fp h):p.1∈fp/\h.get? p.1=some p.2:=by
 obtain⟨b,hb,e⟩:=iP.mp hp
 cases q:h.get? b with
 |none=> rw [q]at e;cases e
 |some o=>
  rw [q]at e
  have e':(b,o)=p:=cq e
  subst e'
  exact⟨hb,q⟩
theorem Inv.pinned(I:Inv X pins σ H s)(hf: ∀b∈fp,ack X pins H b)(ho: ∀b∈fp,∃o,s.heap.get? b=some o/\ ∀v,o.data≠ .cell v):Inv X (pins++afl fp s.heap) σ H s:=
 I.pins_of fun p hp=> (bI.mp hp).elim (fun z=> I.pin p (bQ _ z)) fun z=> by
  obtain⟨hb,e⟩:=at4 z
  obtain⟨f0,f1,f2,_⟩:=hf p.1 hb
  obtain⟨o,e',d⟩:=ho p.1 hb
  rw [e]at e';cases e'
  exact⟨e,f0,f1,f2,d⟩
theorem Inv.unpinned{pl:List (Addr×Obj)}(I:Inv X (pins++pl) σ H s):Inv X pins σ H s:=I.pins_of fun p hp=> I.pin p (bQ _ (fN _ hp))
theorem a5s{body:List Stmt}{wi:TI}{g:TG}{tb:TS}(hp:nB (model X.prog X.w) X.A X.env X.xe)(hc:X.calm=true)(hi:PI X tg iter wi)(hg:PG X tg g)(hb:PSs X body tb)(hs: ∀x,d9 iter X.env x=pure x:=by intro _;rfl):PS X (.For tg iter body [] pos) (ba8 wi g tb):=by
 (first|refine⟨?_⟩|skip);intro pins s σ H D I h
 refine wpAny_For (thn (hi pins s σ H _ I h) fun v s1 h1=> thn h1 fun itv s2 h2=> ?_) hs
 obtain⟨it,fp,tn,J,H2,e,I2,T,st2,f2,W,⟨m0,w0⟩,turn⟩:=h2
 subst e
 -- what stays true of the iterator's objects through the loop
 have stat: ∀{H':Hp},(∀b∈fp,H' b=none) -> ∀b∈fp,ack X pins H' b:=fun hn b hb=> ⟨hn b hb,(f2 b hb).2⟩
 refine codeAny_forLoop_any (fun n s'=> ∃i σ' H',Inv X pins σ' H' s'/\tn i s'.heap/\(∀b∈fp,H' b=none)/\W i n σ' H') ?_ m0 ⟨0,σ,H2,I2,st2,fun b hb=> (f2 b hb).1,w0⟩
 rintro n s3 ⟨i,σ3,H3,I3,st3,fr3,w3⟩
 rcases turn i n σ3 H3 w3 with ⟨stop,qn⟩|⟨go,N,hN,step⟩
 ·refine fZ hp (thn (T.done X rfl rfl rfl hc i pins s3 σ3 H3 X.xe I3 (stat fr3) st3 stop) fun r s4 ⟨hr,I4⟩=> ?_)
  subst hr
  exact hX ⟨σ3,H3,I4,qn⟩
 ·refine fZ hp (thn (T.item X rfl rfl rfl hc i pins s3 σ3 H3 X.xe I3 (stat fr3) st3 go) fun r s4 ⟨u,hr,h4⟩=> ?_)
  subst hr
  refine fZ hp (thn h4 fun _ s5 ⟨x,H5,I5,r5,y5,st5,fr5⟩=> ?_)
  have I5':=I5.pinned (stat fr5) (T.obj _ _ st5)
  refine fZ hp (thn (hg _ s5 σ3 H5 x u _ I5' r5 (step x H5 y5)) fun _ s6 ⟨σ6,H6,I6,q6⟩=> ?_)
  refine fZ hp (thn (hb _ s6 σ6 H6 _ I6 q6) fun f s7 q7=> ?_)
  have again: ∀{σ7:St} {H7:Hp},Inv X (pins++afl fp s5.heap) σ7 H7 s7 -> N σ7 H7 -> ∃m,m < n/\ ∃i σ' H',Inv X pins σ' H' s7/\tn i s7.heap/\(∀b∈fp,H' b=none)/\W i m σ' H':=fun {σ7 H7} I7 n7=> by
   obtain⟨m',hm,w7⟩:=hN σ7 H7 n7
   refine⟨m',hm,i+1,σ7,H7,I7.unpinned,T.keep _ _ _ st5 fun b hb o e=> (I7.pin (b,o) (bQ _ (bQ _ (aby hb e)))).1,fun b hb=> ?_,w7⟩
   obtain⟨o,e,d⟩:=T.obj _ _ st5 b hb
   exact (I7.pin (b,o) (bQ _ (bQ _ (aby hb e)))).2.1
  cases f with
  |next=> obtain⟨σ7,H7,I7,n7⟩:=q7;exact again I7 n7
  |cont=> obtain⟨σ7,H7,I7,n7⟩:=q7;exact again I7 n7
  |brk=> obtain⟨σ7,H7,I7,q7⟩:=q7;exact⟨σ7,H7,I7.unpinned,q7⟩
  |ret v=> obtain⟨x7,σ7,H7,I7,r7,q7⟩:=q7;exact⟨x7,σ7,H7,I7.unpinned,r7,q7⟩
abbrev R2:=V -> V -> Hp -> VK -> Prop
def OpR(X:Cx)(f:af -> af -> Sem af)(r:R2):Prop:=
 ∀(pins:List (Addr×Obj)) (s:ak) (σ:St) (H:Hp) (x y:V) (v u:af) (Q:VK),Inv X pins σ H s -> RelV x v -> RelV y u -> r x y H Q ->
  wpAny (model X.prog X.w) X.A (f v u) (EP X pins σ Q) X.xe s
def UnR(X:Cx)(f:af -> Sem af)(r:V -> Hp -> VK -> Prop):Prop:=
 ∀(pins:List (Addr×Obj)) (s:ak) (σ:St) (H:Hp) (x:V) (v:af) (Q:VK),Inv X pins σ H s -> RelV x v -> r x H Q ->
  wpAny (model X.prog X.w) X.A (f v) (EP X pins σ Q) X.xe s
def vb(X:Cx)(f:af)(r:List V -> Hp -> VK -> Prop):Prop:=
 ∀(pins:List (Addr×Obj)) (s:ak) (σ:St) (H:Hp) (xs:List V) (us:List af) (Q:VK),Inv X pins σ H s -> jm xs us -> r xs H Q ->
  wpAny (model X.prog X.w) X.A (call f us) (EP X pins σ Q) X.xe s
def a9w(X:Cx)(r:V -> Hp -> (Bool -> Hp -> Prop) -> Prop):Prop:=
 ∀(pins:List (Addr×Obj)) (s:ak) (σ:St) (H:Hp) (x:V) (v:af) (Q:Bool -> Hp -> Prop),Inv X pins σ H s -> RelV x v -> r x H Q ->
  wpAny (model X.prog X.w) X.A (truthy v) (TP X pins σ Q) X.xe s
noncomputable def tOp(r:R2)(ta tb:TE):TE:=fun σ H Q=> ta σ H fun x H1=> tb σ H1 fun y H2=> r x y H2 Q
noncomputable def tUn(r:V -> Hp -> VK -> Prop)(ta:TE):TE:=fun σ H Q=> ta σ H fun x H1=> r x H1 Q
noncomputable def rI(C:Int -> Int -> Prop)(g:Int -> Int -> V):R2:=fun x y H Q=> ∃i j,x=.int i/\y=.int j/\C i j/\Q (g i j) H
noncomputable def rI0(g:Int -> Int -> V):R2:=fun x y H Q=> ∃i j,x=.int i/\y=.int j/\Q (g i j) H
def rU(g:Int -> V):V -> Hp -> VK -> Prop:=fun x H Q=> ∃i,x=.int i/\Q (g i) H
section
variable{X:Cx}{a b c:Expr}{ta tb tc:TE}{pos:Pos}
theorem axp(ha:PE X a ta)(hb:PE X b tb){R:V -> V -> Hp -> Prop}(I:Inv X pins σ H s)(h:ta σ H fun x H1=> tb σ H1 fun y H2=> R x y H2){f:af -> af -> Sem af}(hf: ∀v u s2 x y H2,Inv X pins σ H2 s2 -> RelV x v -> RelV y u -> R x y H2 -> wpAny (model X.prog X.w) X.A (f v u) Q X.xe s2):
  wpAny (model X.prog X.w) X.A (eval a X.env) (fun v s₁=> wpAny (model X.prog X.w) X.A (eval b X.env) (fun u s₂=> wpAny (model X.prog X.w) X.A (f v u) Q X.xe s₂) X.xe s₁) X.xe s:=by
 refine thn (ha pins s σ H _ I h) fun v s1 ⟨x,H1,I1,r1,q1⟩=> ?_
 refine thn (hb pins s1 σ H1 _ I1 q1) fun u s2 ⟨y,H2,I2,r2,q2⟩=> ?_
 exact hf v u s2 x y H2 I2 r1 r2 q2
theorem a7h{op:lV}{r:R2}(ho:OpR X (binaryOp op) r)(ha:PE X a ta)(hb:PE X b tb):PE X (.BinOp a op b pos) (tOp r ta tb):=by
 (first|refine⟨?_⟩|skip);intro pins s σ H Q I h
 exact wpAny_BinOp (axp ha hb I h fun v u s2 x y H2 I2 rx ry q=> ho pins s2 σ H2 x y v u Q I2 rx ry q)
theorem a84{op:UnaryOp}{r:V -> Hp -> VK -> Prop}(ho:UnR X (unaryOp op) r)(ha:PE X a ta):PE X (.UnaryOp op a pos) (tUn r ta):=by
 (first|refine⟨?_⟩|skip);intro pins s σ H Q I h
 exact UnaryOp_ (thn (ha pins s σ H _ I h) fun v s1 ⟨x,H1,I1,r1,q1⟩=> ho pins s1 σ H1 x v Q I1 r1 q1)
theorem opI{f:af -> af -> Sem af}{C:Int -> Int -> Prop}{g:Int -> Int -> Int}
  (rule: ∀(i j:Int) (t u:Tok) (s:ak) (Q:af -> ak -> Prop) (E:af -> ak -> Prop),C i j -> Q (.int (g i j) s.toks) {s with toks:=s.toks+1} -> wpAny (model X.prog X.w) X.A (f (.int i t) (.int j u)) Q E s):
  OpR X f (rI C fun i j=>.int (g i j)):=by
 (first|refine⟨?_⟩|skip);intro pins s σ H x y v u Q I rx ry h
 obtain⟨i,j,rfl,rfl,hc,q⟩:=h
 obtain⟨t,rfl⟩:=rx
 obtain⟨t',rfl⟩:=ry
 exact rule i j t t' s _ _ hc ⟨.int (g i j),H,I.tok _,⟨_,rfl⟩,q⟩
theorem a64{f:af -> af -> Sem af}{g:Int -> Int -> Int}
  (rule: ∀(i j:Int) (t u:Tok) (s:ak) (Q:af -> ak -> Prop) (E:af -> ak -> Prop),Q (.int (g i j) s.toks) {s with toks:=s.toks+1} -> wpAny (model X.prog X.w) X.A (f (.int i t) (.int j u)) Q E s):
  OpR X f (rI0 fun i j=>.int (g i j)):=by
 (first|refine⟨?_⟩|skip);intro pins s σ H x y v u Q I rx ry h
 obtain⟨i,j,rfl,rfl,q⟩:=h
 obtain⟨t,rfl⟩:=rx
 obtain⟨t',rfl⟩:=ry
 exact rule i j t t' s _ _ ⟨.int (g i j),H,I.tok _,⟨_,rfl⟩,q⟩
theorem aru{f:af -> af -> Sem af}{g:Int -> Int -> Bool}
  (rule: ∀(i j:Int) (t u:Tok) (s:ak) (Q:af -> ak -> Prop) (E:af -> ak -> Prop),Q (.bool (g i j)) s -> wpAny (model X.prog X.w) X.A (f (.int i t) (.int j u)) Q E s):
  OpR X f (rI0 fun i j=>.bl (g i j)):=by
 (first|refine⟨?_⟩|skip);intro pins s σ H x y v u Q I rx ry h
 obtain⟨i,j,rfl,rfl,q⟩:=h
 obtain⟨t,rfl⟩:=rx
 obtain⟨t',rfl⟩:=ry
 exact rule i j t t' s _ _ ⟨.bl (g i j),H,I,rfl,q⟩
def aqo(i j:Int):Prop:=0 < j/\j < 1073741824
def ar2(i j:Int):Prop:=0 <=j/\j <=1000000/\i.natAbs < 2^64
def ajr(i j:Int):Prop:=(-(2^64) < i/\i < 2^64)\/(-(2^64) < j/\j < 2^64)
theorem ajr.ok{i j:Int}(h:ajr i j):IntMulOk i j:=by
 rcases h with ⟨h1,h2⟩|⟨h1,h2⟩
 ·exact .of_left (intBits_le_64 h1 h2)
 ·exact .of_right (intBits_le_64 h1 h2)
theorem av0:OpR X (binaryOp .Add) (rI0 fun i j=>.int (i+j)):=a64 fun _ _ _ _ _ _ _ q=> add_int q
theorem an5:OpR X (binaryOp .Sub) (rI0 fun i j=>.int (i - j)):=a64 fun _ _ _ _ _ _ _ q=> sub_int q
theorem a5x:OpR X (binaryOp .Mult) (rI ajr fun i j=>.int (i*j)):=opI fun _ _ _ _ _ _ _ hc q=> mul_int q hc.ok
theorem a2o:OpR X (binaryOp .FloorDiv) (rI aqo fun i j=>.int (i/j)):=opI fun i j _ _ _ _ _ hc q=> by
 have h1:(0:Int) < j:=hc.1
 have h2:j < 1073741824:=hc.2
 exact floordiv_int (by lia) (by rw [Int.fdiv_eq_ediv_of_nonneg i (by lia)];exact q) (.inl (PyProof.noPylong_small (by lia)))
theorem a49:OpR X (binaryOp .Mod) (rI (fun _ j=> 0 < j) fun i j=>.int (i % j)):=opI fun i j _ _ _ _ _ hc q=> by
 have h1:(0:Int) < j:=hc
 exact mod_int' (by lia) (by rw [Int.fmod_eq_emod_of_nonneg i (by lia)];exact q)
theorem a40:OpR X (binaryOp .Pow) (rI ar2 fun i j=>.int (i^j.toNat)):=opI fun _ _ _ _ _ _ _ hc q=> pow_int_small hc.1 hc.2.1 hc.2.2 q
theorem unI{f:af -> Sem af}{g:Int -> Int}
  (rule: ∀(i:Int) (t:Tok) (s:ak) (Q:af -> ak -> Prop) (E:af -> ak -> Prop),Q (.int (g i) s.toks) {s with toks:=s.toks+1} -> wpAny (model X.prog X.w) X.A (f (.int i t)) Q E s):
  UnR X f (rU fun i=>.int (g i)):=by
 (first|refine⟨?_⟩|skip);intro pins s σ H x v Q I rx h
 obtain⟨i,rfl,q⟩:=h
 obtain⟨t,rfl⟩:=rx
 exact rule i t s _ _ ⟨.int (g i),H,I.tok _,⟨_,rfl⟩,q⟩
theorem a58:UnR X (unaryOp .USub) (rU fun i=>.int (-i)):=unI fun _ _ _ _ _ q=> neg_int q
end
noncomputable def a34:V -> V -> Bool
 |.non,.non=> true|.non,.int _=> true|.int _,.non=> true|.non,.bl _=> true|.bl _,.non=> true|.non,.str _=> true|.str _,.non=> true
 |.int _,.int _=> true|.bl _,.bl _=> true|.str _,.str _=> true|.byt _,.byt _=> true
 |.int _,.str _=> true|.str _,.int _=> true|.bl _,.str _=> true|.str _,.bl _=> true
 |_,_=> false
def rEq:R2:=fun x y H Q=> a34 x y=true/\Q (.bl (decide (x=y))) H
def rNe:R2:=fun x y H Q=> a34 x y=true/\Q (.bl (!decide (x=y))) H
theorem apv{i j:Int}:decide (V.int i=V.int j)=(i==j):=by
 rw [aW]
 simp
theorem at7{i j:Bool}:decide (V.bl i=V.bl j)=(i==j):=by
 rw [aW]
 simp
theorem apq{i j:Str}:decide (V.str i=V.str j)=(i==j):=by
 rw [aW]
 simp
theorem apa{i j:Array UInt8}:decide (V.byt i=V.byt j)=(i.toList==j.toList):=by
 rw [aW]
 cases i
 cases j
 simp
section
variable{X:Cx}{a b c:Expr}{ta tb tc:TE}{pos:Pos}
theorem jz{Q:VK}{k k':Bool}(I:Inv X pins σ H s)(q:Q (.bl k) H)(e:k=k'):EP X pins σ Q (.bool k') s:=by
 subst e
 exact⟨.bl k,H,I,rfl,q⟩
theorem a78:OpR X (aY .Eq) rEq:=by
 (first|refine⟨?_⟩|skip);intro pins s σ H x y v u Q I rx ry h
 obtain⟨hs,q⟩:=h
 cases x with
 |non=>
  cases rx
  cases y with
  |non=> cases ry;exact PySem.EqNone.eq_none_none (jz I q (by simp))
  |bl j=> cases ry;exact PySem.EqNone.eq_none_bool (jz I q (by simp))
  |int j=> obtain⟨t',rfl⟩:=ry;exact PySem.EqNone.eq_none_int (jz I q (by simp))
  |str j=> obtain⟨t',rfl⟩:=ry;exact PySem.EqNone.eq_none_str (jz I q (by simp))
  |_=> exact absurd (show false=true from hs) aq
 |bl i=>
  cases rx
  cases y with
  |non=> cases ry;exact PySem.EqNone.eq_bool_none (jz I q (by simp))
  |bl j=> cases ry;exact eq_bool (jz I q at7)
  |str j=> obtain⟨t',rfl⟩:=ry;exact PySem.EqMixed.eq_bool_str (jz I q (by simp))
  |_=> exact absurd (show false=true from hs) aq
 |int i=>
  obtain⟨t,rfl⟩:=rx
  cases y with
  |non=> cases ry;exact PySem.EqNone.eq_int_none (jz I q (by simp))
  |int j=> obtain⟨t',rfl⟩:=ry;exact eq_int (jz I q apv)
  |str j=> obtain⟨t',rfl⟩:=ry;exact PySem.EqMixed.eq_int_str (jz I q (by simp))
  |_=> exact absurd (show false=true from hs) aq
 |str i=>
  obtain⟨t,rfl⟩:=rx
  cases y with
  |non=> cases ry;exact PySem.EqNone.eq_str_none (jz I q (by simp))
  |bl j=> cases ry;exact PySem.EqMixed.eq_str_bool (jz I q (by simp))
  |int j=> obtain⟨t',rfl⟩:=ry;exact PySem.EqMixed.eq_str_int (jz I q (by simp))
  |str j=> obtain⟨t',rfl⟩:=ry;exact eq_str (jz I q apq)
  |_=> exact absurd (show false=true from hs) aq
 |byt i=>
  obtain⟨t,rfl⟩:=rx
  cases y with
  |byt j=> obtain⟨t',rfl⟩:=ry;exact PySem.W.eq_bytes (jz I q apa)
  |_=> exact absurd (show false=true from hs) aq
 |_=> cases y <;> exact absurd (show false=true from hs) aq
theorem a81:OpR X (aY .NotEq) rNe:=by
 (first|refine⟨?_⟩|skip);intro pins s σ H x y v u Q I rx ry h
 obtain⟨hs,q⟩:=h
 cases x with
 |non=>
  cases rx
  cases y with
  |non=> cases ry;exact PySem.EqNone.ne_none_none (jz I q (by simp))
  |bl j=> cases ry;exact PySem.EqNone.ne_none_bool (jz I q (by simp))
  |int j=> obtain⟨t',rfl⟩:=ry;exact PySem.EqNone.ne_none_int (jz I q (by simp))
  |str j=> obtain⟨t',rfl⟩:=ry;exact PySem.EqNone.ne_none_str (jz I q (by simp))
  |_=> exact absurd (show false=true from hs) aq
 |bl i=>
  cases rx
  cases y with
  |non=> cases ry;exact PySem.EqNone.ne_bool_none (jz I q (by simp))
  |bl j=> cases ry;exact ne_bool (jz I q (congrArg not at7))
  |str j=> obtain⟨t',rfl⟩:=ry;exact PySem.EqMixed.ne_bool_str (jz I q (by simp))
  |_=> exact absurd (show false=true from hs) aq
 |int i=>
  obtain⟨t,rfl⟩:=rx
  cases y with
  |non=> cases ry;exact PySem.EqNone.ne_int_none (jz I q (by simp))
  |int j=> obtain⟨t',rfl⟩:=ry;exact ne_int (jz I q (congrArg not apv))
  |str j=> obtain⟨t',rfl⟩:=ry;exact PySem.EqMixed.ne_int_str (jz I q (by simp))
  |_=> exact absurd (show false=true from hs) aq
 |str i=>
  obtain⟨t,rfl⟩:=rx
  cases y with
  |non=> cases ry;exact PySem.EqNone.ne_str_none (jz I q (by simp))
  |bl j=> cases ry;exact PySem.EqMixed.ne_str_bool (jz I q (by simp))
  |int j=> obtain⟨t',rfl⟩:=ry;exact PySem.EqMixed.ne_str_int (jz I q (by simp))
  |str j=> obtain⟨t',rfl⟩:=ry;exact ne_str (jz I q (congrArg not apq))
  |_=> exact absurd (show false=true from hs) aq
 |byt i=>
  obtain⟨t,rfl⟩:=rx
  cases y with
  |byt j=> obtain⟨t',rfl⟩:=ry;exact PySem.W.ne_bytes (jz I q (congrArg not apa))
  |_=> exact absurd (show false=true from hs) aq
 |_=> cases y <;> exact absurd (show false=true from hs) aq
theorem a6v:OpR X (aY .Lt) (rI0 fun i j=>.bl (decide (i < j))):=aru fun _ _ _ _ _ _ _ q=> lt_int q
theorem a8i:OpR X (aY .LtE) (rI0 fun i j=>.bl (decide (i <=j))):=aru fun _ _ _ _ _ _ _ q=> le_int q
theorem a71:OpR X (aY .Gt) (rI0 fun i j=>.bl (decide (j < i))):=aru fun _ _ _ _ _ _ _ q=> gt_int q
theorem a8b:OpR X (aY .GtE) (rI0 fun i j=>.bl (decide (j <=i))):=aru fun _ _ _ _ _ _ _ q=> ge_int q
theorem aut:OpR X (aY .Lt) (fun x y H Q=> ∃i j,x=.str i/\y=.str j/\Q (.bl (decide (i.cps.toList < j.cps.toList))) H):=by
 (first|refine⟨?_⟩|skip);intro pins s σ H x y v u Q I rx ry h
 obtain⟨i,j,rfl,rfl,q⟩:=h
 obtain⟨t,rfl⟩:=rx
 obtain⟨t',rfl⟩:=ry
 exact lt_str (jz I q rfl)
theorem ave:OpR X (aY .In) (fun x y H Q=> ∃i j,x=.str i/\y=.str j/\Q (.bl (!(eP j i 0 j.length 1).isEmpty)) H):=by
 (first|refine⟨?_⟩|skip);intro pins s σ H x y v u Q I rx ry h
 obtain⟨i,j,rfl,rfl,q⟩:=h
 obtain⟨t,rfl⟩:=rx
 obtain⟨t',rfl⟩:=ry
 exact in_str (jz I q rfl)
theorem a48:OpR X (aY .Is) (fun x y H Q=> y=.non/\Q (.bl (decide (x=.non))) H):=by
 (first|refine⟨?_⟩|skip);intro pins s σ H x y v u Q I rx ry h
 obtain⟨rfl,q⟩:=h
 cases ry
 refine is_none_gen (jz I q ?_)
 cases x <;> first
  |(cases rx;rfl)
  |(obtain⟨t,rfl⟩:=rx;rfl)
theorem a1h:OpR X (aY .IsNot) (fun x y H Q=> y=.non/\Q (.bl (!decide (x=.non))) H):=by
 (first|refine⟨?_⟩|skip);intro pins s σ H x y v u Q I rx ry h
 obtain⟨rfl,q⟩:=h
 cases ry
 refine isnot_none_gen (jz I q ?_)
 cases x <;> first
  |(cases rx;rfl)
  |(obtain⟨t,rfl⟩:=rx;rfl)
theorem amn:OpR X (aY .NotIn) (fun x y H Q=> ∃i j,x=.str i/\y=.str j/\Q (.bl (!(!(eP j i 0 j.length 1).isEmpty))) H):=by
 (first|refine⟨?_⟩|skip);intro pins s σ H x y v u Q I rx ry h
 obtain⟨i,j,rfl,rfl,q⟩:=h
 obtain⟨t,rfl⟩:=rx
 obtain⟨t',rfl⟩:=ry
 exact notIn_str (jz I q rfl)
theorem aui(b:Expr)(h:op≠ .In:=by decide)(h2:op≠ .NotIn:=by decide):fR op b=false:=by
 have e1:(op==CmpOp.In)=false:=by cases op <;> first|rfl|exact absurd rfl h
 have e2:(op==CmpOp.NotIn)=false:=by cases op <;> first|rfl|exact absurd rfl h2
 cases b <;> simp [fR,e1,e2]
theorem a26{r:R2}(ho:OpR X (aY op) r)(ha:PE X a ta)(hb:PE X b tb)(hm:fR op b=false):PE X (.Compare a [op] [b] pos) (tOp r ta tb):=by
 (first|refine⟨?_⟩|skip);intro pins s σ H Q I h
 exact wpAny_Compare1 (axp ha hb I h fun v u s2 x y H2 I2 rx ry q=> ho pins s2 σ H2 x y v u Q I2 rx ry q) hm
noncomputable def ari(t:TE):TT:=fun σ H Q=> t σ H fun x H'=> ∃k,x=.bl k/\Q k H'
theorem a1d{r:R2}(ho:OpR X (aY op) r)(ha:PE X a ta)(hb:PE X b tb)(hm:fR op b=false):PT X (.Compare a [op] [b] pos) (ari (tOp r ta tb)):=by
 (first|refine⟨?_⟩|skip);intro pins s σ H Q I h
 refine wpAny_isTrue_Compare1 (thn (ha pins s σ H _ I h) fun v s1 ⟨x,H1,I1,r1,q1⟩=> thn (hb pins s1 σ H1 _ I1 q1) fun u s2 ⟨y,H2,I2,r2,q2⟩=>
  thn (ho pins s2 σ H2 x y v u _ I2 r1 r2 q2) fun c s3 ⟨z,H3,I3,r3,k,e,q3⟩=> ?_) hm
 subst e
 cases r3
 exact cC ⟨H3,I3,q3⟩
noncomputable def ana(r r':R2)(ta tb tc:TE):TE:=fun σ H Q=> ta σ H fun x H1=> tb σ H1 fun y H2=> r x y H2 fun z H3=> ∃k,z=.bl k/\
 (if k=true then tc σ H3 fun w' H4=> r' y w' H4 Q else Q (.bl false) H3)
theorem ayv{op':nc}{r r':R2}(ho:OpR X (aY op) r)(ho':OpR X (aY op') r')(ha:PE X a ta)(hb:PE X b tb)(hc:PE X c tc)(hm:mP [op,op'] [b,c]=false:=by with_unfolding_all rfl):PE X (.Compare a [op,op'] [b,c] pos) (ana r r' ta tb tc):=by
 (first|refine⟨?_⟩|skip);intro pins s σ H Q I h
 refine Compare_chain (thn (ha pins s σ H _ I h) fun v s1 ⟨x,H1,I1,r1,q1⟩=> chain_link (thn (hb pins s1 σ H1 _ I1 q1) fun u s2 ⟨y,H2,I2,r2,q2⟩=>
  thn (ho pins s2 σ H2 x y v u _ I2 r1 r2 q2) fun d s3 ⟨z,H3,I3,r3,k,e,q3⟩=> ?_)) hm
 subst e
 cases r3
 refine cC ?_
 cases k with
 |false=> exact ite_ff ⟨.bl false,H3,I3,rfl,q3⟩
 |true=> exact ite_tt (chain_last (thn (hc pins s3 σ H3 _ I3 q3) fun w' s4 ⟨z',H4,I4,r4,q4⟩=> ho' pins s4 σ H4 y z' u w' Q I4 r2 r4 q4))
theorem aws{op':nc}{r r':R2}(ho:OpR X (aY op) r)(ho':OpR X (aY op') r')(ha:PE X a ta)(hb:PE X b tb)(hc:PE X c tc)(hm:mP [op,op'] [b,c]=false:=by with_unfolding_all rfl):PT X (.Compare a [op,op'] [b,c] pos) (ari (ana r r' ta tb tc)):=by
 (first|refine⟨?_⟩|skip);intro pins s σ H Q I h
 refine isTrue_chain (thn (ha pins s σ H _ I h) fun v s1 ⟨x,H1,I1,r1,q1⟩=> test_link (thn (hb pins s1 σ H1 _ I1 q1) fun u s2 ⟨y,H2,I2,r2,q2⟩=>
  thn (ho pins s2 σ H2 x y v u _ I2 r1 r2 q2) fun d s3 ⟨z,H3,I3,r3,k,e,q3⟩=> ?_)) hm
 subst e
 cases r3
 refine cC ?_
 cases k with
 |false=>
  obtain⟨k',e',q'⟩:=q3
  cases e'
  exact ite_ff ⟨H3,I3,q'⟩
 |true=>
  refine ite_tt (test_last (thn (hc pins s3 σ H3 _ I3 q3) fun w' s4 ⟨z',H4,I4,r4,q4⟩=> thn (ho' pins s4 σ H4 y z' u w' _ I4 r2 r4 q4) fun d' s5 ⟨z2,H5,I5,r5,k2,e2,q5⟩=> ?_))
  subst e2
  cases r5
  exact cC ⟨H5,I5,q5⟩
def a3d(K:am)(x:V)(H:Hp)(k:Bool):Prop:=
 match x with
 |.non=> k=false
 |.bl b=> k=b
 |.int i=> k=(i !=0)
 |.str y=> y.length <=sizeLine/\k=((y.length:Int) !=0)
 |.byt y=> y.size <=sizeLine/\k=((y.size:Int) !=0)
 |.ref p=> (∃xs,SqL K H p xs/\k= !xs.isEmpty)\/(∃xs,SqT K H p xs/\k= !xs.isEmpty)\/ ∃kvs,H p=some (.dK kvs)/\k= !kvs.isEmpty
 |_=> False
theorem aqw{κ:Type}{kvs:List (κ×V)}{vs:List (κ×af)}(r:KV kvs vs):(!vs.isEmpty)= !kvs.isEmpty:=by
 cases r <;> rfl
theorem aiv(r:jm xs its):(!its.toArray.isEmpty)= !xs.isEmpty:=by
 cases r <;> simp
theorem acm:(sizeLine:Nat) < 2^63:=by rw [sizeLine_eq];decide
theorem a39:a9w X (fun x H Q=> ∃k,a3d X.K x H k/\Q k H):=by
 (first|refine⟨?_⟩|skip);intro pins s σ H x v Q I rx h
 obtain⟨k,e,q⟩:=h
 have hl:=acm
 have hs:sizeLine=16777216:=sizeLine_eq
 cases x with
 |non=>
  cases rx
  have e':k=false:=e
  subst e'
  exact truthy_none ⟨H,I,q⟩
 |bl b=>
  cases rx
  have e':k=b:=e
  subst e'
  exact cC ⟨H,I,q⟩
 |int i=>
  obtain⟨t,rfl⟩:=rx
  have e':k=(i !=0):=e
  subst e'
  exact PySem.P.truthy_int ⟨H,I,q⟩
 |str y=>
  obtain⟨t,rfl⟩:=rx
  obtain⟨hy,e'⟩:y.length <=sizeLine/\k=((y.length:Int) !=0):=e
  subst e'
  exact PySem.P.truthy_str (by lia) ⟨H,I.tok _,q⟩
 |byt y=>
  obtain⟨t,rfl⟩:=rx
  obtain⟨hy,e'⟩:y.size <=sizeLine/\k=((y.size:Int) !=0):=e
  subst e'
  exact PySem.W.truthy_bytes (by lia) ⟨H,I.tok _,q⟩
 | ref p=>
  cases rx
  have e':(∃xs,SqL X.K H p xs/\k= !xs.isEmpty)\/(∃xs,SqT X.K H p xs/\k= !xs.isEmpty)\/ ∃kvs,H p=some (.dK kvs)/\k= !kvs.isEmpty:=e
  rcases e' with ⟨xs,hx,e'⟩|⟨xs,hx,e'⟩|⟨kvs,hx,e'⟩
  ·subst e'
   obtain⟨its,r,pl,hz⟩:=I.list hx
   have hlen:=r.length
   exact wpAny_truthy_list pl.isList (by simp only [ax];lia) ⟨H,I.tok _,by rw [aiv r];exact q⟩
  ·subst e'
   obtain⟨its,r,pl,hz⟩:=I.tuple hx
   have hlen:=r.length
   exact truthy_tuple pl (by simp only [ax];lia) ⟨H,I.tok _,by rw [aiv r];exact q⟩
  ·subst e'
   obtain⟨hz,hS,vs,r,m⟩:kvs.length <=sizeLine/\(p==fM)=false/\ ∃vs,KV kvs vs/\s.heap.DictOf (ae0 X.prog X.w) p vs:=I.hok p _ hx
   have hlen:kvs.length=vs.length:=Paired.length r
   exact wpAny_truthy_dict hS m (by lia) ⟨H,I.tok _,by rw [aqw r];exact q⟩
 |_=> exact (show False from e).elim
theorem awc(ha:PE X a ta)(he: ∀whole,isTrue a X.env whole=(do let v←whole;standAt a.pos;holding [v] (truthy v))):
  PT X a (fun σ H Q=> ta σ H fun x H'=> ∃k,a3d X.K x H' k/\Q k H'):=by
 (first|refine⟨?_⟩|skip);intro pins s σ H Q I h
 exact isTrue_plain (thn (ha pins s σ H _ I h) fun v s1 ⟨x,H1,I1,r1,q1⟩=> a39 pins s1 σ H1 x v Q I1 r1 q1) (he _)
theorem aqz:OpR X (binaryOp .Add) (fun x y H Q=> ∃i j,x=.str i/\y=.str j/\i.length+j.length <=sizeLine/\Q (.str (i++j)) H):=by
 (first|refine⟨?_⟩|skip);intro pins s σ H x y v u Q I rx ry h
 obtain⟨i,j,rfl,rfl,hz,q⟩:=h
 obtain⟨t,rfl⟩:=rx
 obtain⟨t',rfl⟩:=ry
 exact add_str (fun t' tk=> ⟨.str (i++j),H,I.tok _,⟨_,rfl⟩,q⟩) hz
theorem vals1{x:V}(r:jm [x] us): ∃u,us=[u]/\RelV x u:=by
 cases r with
 |cons r1 r2=> cases r2;exact⟨_,rfl,r1⟩
theorem vals2{x y:V}(r:jm [x,y] us): ∃u w',us=[u,w']/\RelV x u/\RelV y w':=by
 cases r with
 |cons r1 r2=>
  cases r2 with
  |cons r3 r4=> cases r4;exact⟨_,_,rfl,r1,r3⟩
theorem asi(hc:X.calm=true):vb X (.builtin "max") (fun xs H Q=> ∃i j,xs=[.int i,.int j]/\Q (.int (if j > i then j else i)) H):=by
 (first|refine⟨?_⟩|skip);intro pins s σ H xs us Q I r h
 obtain⟨i,j,rfl,q⟩:=h
 obtain⟨u,w',rfl,⟨t,rfl⟩,⟨t',rfl⟩⟩:=vals2 r
 refine max_two_ints (I.ok.hd hc) fun h' tk k=> ⟨_,H,I.kept k,?_,q⟩
 by_cases hj:j > i
 ·rw [if_pos hj,if_pos hj];exact⟨_,rfl⟩
 ·rw [if_neg hj,if_neg hj];exact⟨_,rfl⟩
theorem ati(hc:X.calm=true):vb X (.builtin "min") (fun xs H Q=> ∃i j,xs=[.int i,.int j]/\Q (.int (if j < i then j else i)) H):=by
 (first|refine⟨?_⟩|skip);intro pins s σ H xs us Q I r h
 obtain⟨i,j,rfl,q⟩:=h
 obtain⟨u,w',rfl,⟨t,rfl⟩,⟨t',rfl⟩⟩:=vals2 r
 refine min_two_ints (I.ok.hd hc) fun h' tk k=> ⟨_,H,I.kept k,?_,q⟩
 by_cases hj:j < i
 ·rw [if_pos hj,if_pos hj];exact⟨_,rfl⟩
 ·rw [if_neg hj,if_neg hj];exact⟨_,rfl⟩
end
structure ObjM (h:Heap) (x dx C:Addr) (mA:Str -> Option af):Prop where
 obj:h.get? x=some (kQ C dx)
 ns:h.Ns1 dx mA
 ne:dx≠x
theorem auu{dx:Addr}(n:h.Ns1 dx mA): ∃od,h.get? dx=some od/\ ∀name,lC name od=some (mA name):=by
 obtain⟨o,es,ep,ho,hd,hk,_,hm⟩:=n
 refine⟨o,ho,fun name=> ?_⟩
 have e:=hm name
 unfold nsFind findBy at e
 rw [←Array.find?_toList]at e
 unfold lC
 rw [hd]
 dsimp only
 split
 ·rename_i y q
  rw [q]at e
  exact congrArg some e
 ·rename_i q
  rw [q]at e
  have a:es.toList.any (·.refKey)=false:=by
   rw [jF]
   intro y hy
   obtain⟨z,t,hkey⟩:=hk y (lW.mp hy)
   simp [DictEntry.refKey,hkey]
  have a': ¬es.toList.any (·.refKey)=true:=by rw [a];exact aq
  rw [if_neg a']
  exact congrArg some e
theorem ObjM.look{x dx:Addr}(I:ObjM h x dx C mA): ∃od,PySem.W.InstAt h x (kQ C dx) C (some od)/\ ∀name,lC name od=some (mA name):=
 let ⟨od,ho,hl⟩:=auu I.ns
 ⟨od,⟨I.obj,rfl,rfl,ho⟩,hl⟩
noncomputable def vj(f:Str)(v:V):List (Str×V) -> List (Str×V)
 |[]=> [(f,v)]
 |(g,x)::r=> if g=f then (g,v)::r else (g,x)::vj f v r
theorem ada(f g:Str)(v:V): ∀fs:List (Str×V),(vj f v fs).lookup g=if g=f then some v else fs.lookup g
 | []=> by
  show eD g [(f,v)]=_
  by_cases h:g=f
  ·have hb:(g==f)=true:=beq_iff_eq.mpr h
   simp only [eD,hb,if_pos h]
  ·have hb:(g==f)=false:=beq_eq_false_iff_ne.mpr h
   simp only [eD,hb,if_neg h]
 | (k,x)::r=> by
  have ih:=ada f g v r
  rw [show vj f v ((k,x)::r)=(if k=f then (k,v)::r else (k,x)::vj f v r) from rfl]
  by_cases hk:k=f
  ·rw [if_pos hk]
   by_cases h:g=k
   ·have hb:(g==k)=true:=beq_iff_eq.mpr h
    simp only [eD,hb,if_pos (h.trans hk)]
   ·have hb:(g==k)=false:=beq_eq_false_iff_ne.mpr h
    simp only [eD,hb,if_neg (fun e:g=f=> h (e.trans hk.symm))]
  ·rw [if_neg hk]
   by_cases h:g=k
   ·have hb:(g==k)=true:=beq_iff_eq.mpr h
    simp only [eD,hb,if_neg (fun e:g=f=> hk (h.symm.trans e))]
   ·have hb:(g==k)=false:=beq_eq_false_iff_ne.mpr h
    simp only [eD,hb]
    exact ih
theorem acu(f:Str)(v:V): ∀fs:List (Str×V),f∈(vj f v fs).map (·.1)/\ ∀g,g∈fs.map (·.1) -> g∈(vj f v fs).map (·.1)
 |[]=> ⟨by simp [vj],fun g h=> by simp at h⟩
 | (k,x)::r=> by
  obtain⟨i1,i2⟩:=acu f v r
  rw [show vj f v ((k,x)::r)=(if k=f then (k,v)::r else (k,x)::vj f v r) from rfl]
  by_cases hk:k=f
  ·rw [if_pos hk]
   subst hk
   exact⟨by simp,fun g h=> by simpa using h⟩
  ·rw [if_neg hk]
   refine⟨?_,fun g h=> ?_⟩
   ·rw [aP]
    exact az _ i1
   ·rw [aP]at h⊢
    rcases aw.mp h with e|e
    ·exact aw.mpr (.inl e)
    ·exact az _ (i2 g e)
theorem ah0(f:Str)(v:V): ∀fs:List (Str×V),(vj f v fs).length <=fs.length+1
 |[]=> by simp [vj]
 |(k,x)::r=> by
  have ih:=ah0 f v r
  rw [show vj f v ((k,x)::r)=(if k=f then (k,v)::r else (k,x)::vj f v r) from rfl]
  by_cases hk:k=f
  ·rw [if_pos hk,aQ,aQ];lia
  ·rw [if_neg hk,aQ,aQ];lia
section
variable{P:aT}{w:aX}{H H':Hp}{h h':Heap}{a C dx:Addr}{fs fs':List (Str×V)}
theorem a2g(hok:HOk P w H h)(e:H a=some (.ins C dx fs)): ∃mA,ObjM h a dx C mA/\(∀f,afx (fs.lookup f) (mA f))/\fx mA (fs.map (·.1))/\fs.length <=1000/\H dx=some (.own a):=by
 obtain⟨d,z,ne,ob,mA,n,r,q⟩:=(show ke P w H h a (.ins C dx fs) from hok a _ e)
 exact⟨mA,⟨ob,n,ne⟩,r,q,z,d⟩
end
structure Cls (K:am) (C:Addr):Prop where
 pg:PySem.W.plainGet K C Str.empty=true
 hd:PySem.W.hasDictIn K C=true
 po:PySem.W.plainOver K C=true
 sa:cG K (.ref C) "__setattr__"=some (some (.builtin "object.__setattr__"))
theorem Cls.get(c:Cls K C)(f:Str):PySem.W.plainGet K C f=true:=c.pg
def aa8(K:am)(C:Addr)(f:Str):Prop:=cG K (.ref C) f=some none
section
variable{X:Cx}{pins:List (Addr×Obj)}{σ:St}{H:Hp}{s:ak}{A:bj}{E:af -> ak -> Prop}{Q:af -> ak -> Prop}{c:af}{b:Bool}
inductive TyOf (K:am) (H:Hp):V -> af -> Prop where
 |non:TyOf K H .non (.type "NoneType")
 |bl (x:Bool):TyOf K H (.bl x) (.type "bool")
 |int (i:Int):TyOf K H (.int i) (.type "int")
 |str (x:Str):TyOf K H (.str x) (.type "str")
 |flt (x:UInt64):TyOf K H (.flt x) (.type "float")
 |lst {a:Addr} {xs:List V} (e:H a=some (.lst xs)):TyOf K H (.ref a) (.type "list")
 |frz {a:Addr} {o:Obj} {xs:List V} (e:H a=some (.frz o (.lst xs))):TyOf K H (.ref a) (.type "list")
 |tup {a:Addr} {xs:List V} (e:H a=some (.tup xs)):TyOf K H (.ref a) (.type "tuple")
 |dK {a:Addr} {kvs:List (Key×V)} (e:H a=some (.dK kvs)):TyOf K H (.ref a) (.type "dict")
 |dT {a:Addr} {kvs:List (List Key×V)} (e:H a=some (.dT kvs)):TyOf K H (.ref a) (.type "dict")
 | ins {a C dx:Addr} {fs:List (Str×V)} (e:H a=some (.ins C dx fs)) (cl:Cls K C) (ha:cG K (.ref C) "__class__"=some (some (.builtin "object.__class__")))
   (hn:fq K (.builtin "object.__class__") "__get__"=some (some (.builtin "getset_descriptor.__get__"))) (htk:kR K (.builtin "object.__class__")=some true)
   (hm:i6 K C (.type "object")=some true):TyOf K H (.ref a) (.ref C)
theorem aki{x:V}{u t:af}(I:Inv X pins σ H s)(rx:RelV x u)(ty:TyOf X.K H x t)(e:cH X.K t c=some b)(h: ∀tk,Q (.bool b) {s with toks:=tk}):
  wpAny (model X.prog X.w) A (call (.builtin "isinstance") [u,c]) Q E s:=by
 cases ty with
 |non=> cases (show u=aZ from rx);exact cI PySem.W.kitx_none I.kIn ek e (fun z=> nomatch z) h
 |bl y=> cases (show u=fL y from rx);exact cI PySem.W.kitx_bool I.kIn ek e (fun z=> nomatch z) h
 |int i=> obtain⟨t,q⟩:=(show∃t,u=dq i t from rx);cases q;exact cI PySem.W.kitx_int I.kIn ek e (fun z=> nomatch z) h
 |str y=> obtain⟨t,q⟩:=(show∃t,u=gb y t from rx);cases q;exact cI PySem.W.kitx_str I.kIn ek e (fun z=> nomatch z) h
 |flt y=> obtain⟨t,q⟩:=(show∃t,u=Value.float y t from rx);cases q;exact cI PySem.W.kitx_float I.kIn ek e (fun z=> nomatch z) h
 | @lst a xs ea=>
  cases (show u=aS a from rx)
  obtain⟨_,_,n,_,h1⟩:=(show ke X.prog X.w H s.heap a (.lst xs) from I.hok a _ ea)
  exact cI PySem.W.kitx_list I.kIn ⟨_,h1,rfl⟩ e (fun z=> nomatch z) h
 | @frz a ob xs ea=>
  cases (show u=aS a from rx)
  obtain⟨_,_,_,n,_,h1⟩:=(show ke X.prog X.w H s.heap a (.frz ob (.lst xs)) from I.hok a _ ea)
  exact cI PySem.W.kitx_list I.kIn ⟨_,h1,rfl⟩ e (fun z=> nomatch z) h
 | @tup a xs ea=>
  cases (show u=aS a from rx)
  obtain⟨_,_,_,p⟩:=(show ke X.prog X.w H s.heap a (.tup xs) from I.hok a _ ea)
  obtain⟨o,h1,h2,_⟩:=p.tup
  exact cI PySem.W.kitx_tuple I.kIn ⟨o,h1,h2⟩ e (fun z=> nomatch z) h
 | @dK a kvs ea=>
  cases (show u=aS a from rx)
  obtain⟨_,_,vs,_,p⟩:=(show ke X.prog X.w H s.heap a (.dK kvs) from I.hok a _ ea)
  obtain⟨o,es,ep,h1,h2,_⟩:=p
  exact cI PySem.W.kitx_dict I.kIn ⟨o,h1,h2.1⟩ e (fun z=> nomatch z) h
 | @dT a kvs ea=>
  cases (show u=aS a from rx)
  obtain⟨_,_,xs,_,o,es,ep,h1,h2,_⟩:=(show ke X.prog X.w H s.heap a (.dT kvs) from I.hok a _ ea)
  exact cI PySem.W.kitx_dict I.kIn ⟨o,h1,h2.1⟩ e (fun z=> nomatch z) h
 | @ins a C dx fs ea cl ha hn htk hm=>
  cases (show u=aS a from rx)
  obtain⟨mA,O,_⟩:=a2g I.hok ea
  obtain⟨od,J,_⟩:=O.look
  exact cI (PySem.W.kitx_own (cl.get _) cl.hd ha hn htk hm) I.kIn J e (fun z=> nomatch z) h
end
structure Room (k:Nat) (A:bj):Prop where
 hd:A.handled=none
 dp:A.depth+3*k+5 < recursionLimit
 un:A.units+16*k+200 < cLine
 gd:A.guards=some []
theorem Room.mono(r:Room k A)(h:j <=k):Room j A:=⟨r.hd,by have:=r.dp;lia,by have:=r.un;lia,r.gd⟩
theorem Room.deeper(r:Room (k+1) A)(env:Env):Room k (A.deeper env):=
 ⟨r.hd,by have:=r.dp;show A.depth+1+3*k+5 < _;lia,by have:=r.un;show A.units+3+16*k+200 < _;lia,r.gd⟩
theorem as8{kw:List (Str×af)}:(A.under (.builtin "type.__call__" ⟨.ref C::us,kw⟩)).depth=A.depth+1:=by
 first|rfl|simp [jU,Code.weight,Code.isCreation,Code.isGuard,Code.isCaller,Code.frames,mQ,guardIds]
theorem art{kw:List (Str×af)}:(A.under (.builtin "type.__call__" ⟨.ref C::us,kw⟩)).units=A.units+1:=by
 first|rfl|simp [jU,Code.cUnits,Code.frames,mQ]
theorem Room.make(r:Room (k+1) A)(C:Addr)(us:List af)(kw:List (Str×af)):Room k (A.under (.builtin "type.__call__" ⟨.ref C::us,kw⟩)):=
 ⟨r.hd,by have:=r.dp;rw [as8];lia,by have:=r.un;rw [art];lia,by first|exact r.gd|(simpa [jU,Code.isGuard,guardIds] using r.gd)⟩
theorem Room.depth(r:Room k A):A.depth < recursionLimit:=by have:=r.dp;lia
noncomputable def a9n:TA:=fun _ H Q=> Q [] H
noncomputable def a7v(ta:TE)(tr:TA):TA:=fun σ H Q=> ta σ H fun x H1=> tr σ H1 fun xs H2=> Q (x::xs) H2
section
variable{X:Cx}{e:Expr}{es:List Expr}{te:TE}{t:TA}{pos:Pos}
theorem ai1:PA X [] a9n:=.mk <|fun _ _ _ _ H Q I h=> Calls.spliced_nil ⟨[],H,I,.nil,h⟩
theorem agd(ha:PE X e te)(hr:PA X es t)(hs:starEach (e::es) X.env=(false,eval e X.env)::starEach es X.env:=by rfl):PA X (e::es) (a7v te t):=by
 (first|refine⟨?_⟩|skip);intro pos pins s σ H Q I h
 rw [hs]
 show wpAny _ _ (spliced ((false,eval e X.env)::backTo pos (starEach es X.env))) _ _ s
 refine Calls.spliced_cons (thn (ha pins s σ H _ I h) fun u s1 ⟨x,H1,I1,r1,q1⟩=> ?_)
 exact thn (hr pos pins s1 σ H1 _ I1 q1) fun us s2 ⟨xs,H2,I2,r2,q2⟩=> ⟨x::xs,H2,I2,.cons r1 r2,q2⟩
end
abbrev Sp:=List V -> Hp -> VK -> XK -> Prop
abbrev CXT:=List Env -> Hp -> ak -> XK -> af -> ak -> Prop
structure Env0 (P:aT) (w:aX) (K:am) (mg:Str -> Option af) (base:Heap) (A:bj) (outer:List Env) (s:ak) (H:Hp):Prop where
 frames:A.frames=some outer
 mod:Mod K mg base
 bs: ∀b o,base.get? b=some o -> s.heap.get? b=some o/\H b=none
 bsz:base.objs.size <=s.heap.objs.size
 funs:s.heap.FunFrames base outer
 frf: ∀b∈frs outer,H b=none
 hok:HOk P w H s.heap
 bare:gr s.gens
def CE(outer:List Env)(P:aT)(w:aX)(H:Hp)(s:ak)(Q:VK)(u:af)(s':ak):Prop:=
 ∃v H',s'.os=s.os/\gr s'.gens/\Un (frs outer) [] H H' s.heap s'.heap/\HOk P w H' s'.heap/\RelV v u/\Q v H'
def CR(CX:CXT)(outer:List Env)(P:aT)(w:aX)(H:Hp)(s:ak)(Q:VK)(E:XK)(r:h8)(s':ak):Prop:=
 match r with
 |.ok (.ret u)=> CE outer P w H s Q u s'
 |.ok _=> False
 |.error e=> CX outer H s E e s'
structure FnOk (P:aT) (w:aX) (K:am) (mg:Str -> Option af) (base:Heap) (CX:CXT) (k:Nat) (f:Addr) (fd:eH) (ps:List Str) (sp:Sp):Prop where
 len: ∀vs H Q E,sp vs H Q E -> vs.length=ps.length
 run: ∀(A:bj) (outer:List Env) (s:ak) (H:Hp) (args:Args) (us:List af) (vs:List V) (Q:VK) (E:XK),Room k A -> Env0 P w K mg base A outer s H -> lD s fd args (ps.zip us) -> jm vs us -> sp vs H Q E ->
  codeAny (model P w) A (.call (.ref f) args) (CR CX outer P w H s Q E) s
theorem Env0.make{outer:List Env}(e:Env0 P w K mg base A outer s H)(C:Addr)(us:List af)(kw:List (Str×af)):
  Env0 P w K mg base (A.under (.builtin "type.__call__" ⟨.ref C::us,kw⟩)) outer s H:=⟨by first|exact e.frames|(simpa [jU,Code.envs,mQ,pushEnvs] using e.frames),e.mod,e.bs,e.bsz,e.funs,e.frf,e.hok,e.bare⟩
section
variable{X:Cx}{pins:List (Addr×Obj)}{σ:St}{H:Hp}{s s':ak}
theorem Inv.env0(I:Inv X pins σ H s):Env0 X.prog X.w X.K X.mg X.base X.A X.stack s H:=
 ⟨I.ok.frames,I.ok.mod,I.bs,aH I.ok.bsz I.sz,I.stack,I.stkFree,I.hok,I.bare⟩
theorem Inv.after{Q:VK}{u:af}(I:Inv X pins σ H s)(h:CE X.stack X.prog X.w H s Q u s'):EP X pins σ Q u s':=by
 obtain⟨v,H',os,bare,un,hok,r,q⟩:=h
 obtain⟨hh,g,d,t,os'⟩:=s'
 obtain rfl:os'=s.os:=os
 exact⟨v,H',I.call (h':=hh) (g':=g) (d':=d) (t':=t) (ch:=[]) un hok bare (fun b z=> absurd z (by simp)),r,q⟩
end
noncomputable def a03(sp:Sp)(dvs:List V)(E:SK)(t:TA):TE:=fun σ H Q=> t σ H fun vs H1=> sp (vs++dvs) H1 Q (E σ)
def Binds(K:am)(fd:eH)(ps:List Str)(ds:List af):Prop:=
 ∀(s:ak) (us:List af),K.In s.heap -> (us++ds).length=ps.length -> lD s fd ⟨us,[]⟩ (ps.zip (us++ds))
theorem Binds.all(h: ∀us:List af,us.length=ps.length -> bindArgs fd ⟨us,[]⟩=pure (ps.zip us)):Binds K fd ps []:=fun s us _ hl=> by
 rw [cn]at hl⊢
 exact .of_eq (h us hl)
def afh(CX:CXT)(X:Cx)(E:SK):Prop:= ∀(pins:List (Addr×Obj)) (σ:St) (H:Hp) (s:ak) (e:af) (s':ak),Inv X pins σ H s -> CX X.stack H s (E σ) e s' -> X.xe e s'
section
variable{X:Cx}{CX:CXT}{k:Nat}{f C:Addr}{fd:eH}{ps:List Str}{sp:Sp}{dvs:List V}{ds:List af}{E:SK}{x m:Str}{p pos apos:Pos}{e o:Expr}{es:List Expr}{ta:TE}{t:TA}
theorem ath{Q:VK}{vs:List V}(F:FnOk X.prog X.w X.K X.mg X.base CX k f fd ps sp)(hr:Room k X.A)(hb:Binds X.K fd ps ds)(hd:jm dvs ds)(hx:afh CX X E)(I:Inv X pins σ H s)(r:jm vs us)(h:sp (vs++dvs) H Q (E σ)):wpAny (model X.prog X.w) X.A (call (.ref f) us) (EP X pins σ Q) X.xe s:=by
 have r2:jm (vs++dvs) (us++ds):=r.append hd
 have hl:(us++ds).length=ps.length:=by rw [←r2.length];exact F.len _ _ _ _ h
 refine jM (dU (F.run X.A X.stack s H ⟨us,[]⟩ (us++ds) (vs++dvs) Q (E σ) hr I.env0 (hb s us I.kIn hl) r2 h) fun r s' hq=> ?_)
 cases r with
 |error e=> exact hx pins σ H s e s' I hq
 |ok fl=>
  cases fl with
  |ret u=> exact I.after hq
  |next=> exact dA hq
  |brk=> exact dA hq
  |cont=> exact dA hq
theorem a07(F:FnOk X.prog X.w X.K X.mg X.base CX k f fd ps sp)(hr:Room k X.A)(hg:Gl X x)(hm:X.mg x=some (.ref f))(hk:df X.K (.ref f)=true)(hb:Binds X.K fd ps ds)(hd:jm dvs ds)(hx:afh CX X E)
  (ha:PA X (e::es) t) (hdb:(x==("__debug__":Str))=false:=by decide) (he:starEach (e::es) X.env=(false,eval e X.env)::starEach es X.env:=by rfl) (hpl:(backTo pos (starEach es X.env)).any (·.1)=false:=by rfl):
  PE X (.Call (.Name x p) (e::es) [] pos) (a03 sp dvs E t):=by
 (first|refine⟨?_⟩|skip);intro pins s σ H Q I h
 refine gg (adz I hg hm ?_ hdb)
 refine iQ (h₀:=X.base) I.ok.mod.kin hk (thn (ha pos pins s σ H _ I h) fun us s1 ⟨vs,H1,I1,r,q⟩=> ⟨I1.kIn,?_⟩) he hpl
 exact ath F hr hb hd hx I1 r q
end
structure FnScope (N P:List Str) (sc:gn):Prop where
 kind:sc.kind=.function
 co:sc.isCoroutine=false
 gen:sc.isGenerator=false
 nd:N.Nodup
 pre:N.take P.length=P
 par: ∀x∈P,sc.names.lookup x=some .local\/sc.names.lookup x=some .cell
 nofree: ∀y∈sc.names,y.2≠ .free
theorem al0{kindOf:Str -> Option fg}{x:Str}: ∀{binds:List (Str×af)} {m:Str -> Option af},(∀v,(x,v)∉binds) -> bindL kindOf binds m x=m x
 |[],_,_=> rfl
 | (n,v)::r,m,h=> by
  unfold bindL
  rw [al0 fun w hw=> h w (az _ hw)]
  split
  ·have:x≠n:=by rintro rfl;exact h v aB
   simp [this]
  ·rfl
theorem ako{kindOf:Str -> Option fg}{x:Str}: ∀{binds:List (Str×af)} {m:Str -> Option af},(∀v,(x,v)∉binds) -> bindC kindOf binds m x=m x
 |[],_,_=> rfl
 | (n,v)::r,m,h=> by
  unfold bindC
  rw [ako fun w hw=> h w (az _ hw)]
  split
  ·rfl
  ·have:x≠n:=by rintro rfl;exact h v aB
   simp [this]
theorem akr{kindOf:Str -> Option fg}{x:Str}{v:af}: ∀{P:List Str} {vs:List af} {i:Nat} {m:Str -> Option af},P.Nodup -> P[i]?=some x -> vs[i]?=some v -> kindOf x=some .local ->
  bindL kindOf (P.zip vs) m x=some v
 |[],_,_,_,_,h,_,_=> by simp at h
 |_::_,[],_,_,_,_,h,_=> by simp at h
 |p::P,w::vs,0,m,nd,h1,h2,hk=> by
  simp at h1 h2;subst h1;subst h2
  show bindL kindOf ((p,w)::P.zip vs) m p=_
  unfold bindL
  rw [al0 fun v hv=> (dX.mp nd).1 (f6 hv).1,if_pos hk]
  simp
 |p::P,w::vs,i+1,m,nd,h1,h2,hk=> by
  show bindL kindOf ((p,w)::P.zip vs) m x=_
  unfold bindL
  exact akr (i:=i) (dX.mp nd).2 (by simpa using h1) (by simpa using h2) hk
theorem akj{kindOf:Str -> Option fg}{x:Str}{v:af}: ∀{P:List Str} {vs:List af} {i:Nat} {m:Str -> Option af},P.Nodup -> P[i]?=some x -> vs[i]?=some v -> kindOf x≠some .local ->
  bindC kindOf (P.zip vs) m x=some v
 |[],_,_,_,_,h,_,_=> by simp at h
 |_::_,[],_,_,_,_,h,_=> by simp at h
 |p::P,w::vs,0,m,nd,h1,h2,hk=> by
  simp at h1 h2;subst h1;subst h2
  show bindC kindOf ((p,w)::P.zip vs) m p=_
  unfold bindC
  rw [ako fun v hv=> (dX.mp nd).1 (f6 hv).1,if_neg hk]
  simp
 |p::P,w::vs,i+1,m,nd,h1,h2,hk=> by
  show bindC kindOf ((p,w)::P.zip vs) m x=_
  unfold bindC
  exact akj (i:=i) (dX.mp nd).2 (by simpa using h1) (by simpa using h2) hk
noncomputable def start(N:List Str)(vs:List V):St:=vs.map some++aC (N.length - vs.length) none
noncomputable def zt(CX:CXT)(P:aT)(w:aX)(K:am)(mg:Str -> Option af)(base:Heap)(N:List Str)(qual:Str)(scope:gn)(f:Addr)(cd:af)(A:bj)(outer:List Env)(s:ak)(H:Hp)(E:XK):Cx where
 prog:=P
 w:=w
 K:=K
 mg:=mg
 base:=base
 A:=A.deeper (envOfC qual scope s.heap.objs.size f cd)
 N:=N
 s₀:=s
 H₀:=H
 env:=envOfC qual scope s.heap.objs.size f cd
 outer:=outer
 stack:=envOfC qual scope s.heap.objs.size f cd::outer
 ex:=[]
 calm:=true
 fn:=fun _=> true
 pn:=[]
 xe:=fun e s'=> wpAny (model P w) (A.deeper (envOfC qual scope s.heap.objs.size f cd)) (leaving (envOfC qual scope s.heap.objs.size f cd) e) (fun _ s''=> CX outer H s E e s'') (fun e' s''=> CX outer H s E e' s'') s'
theorem anj{sc:gn}{x:Str}(h:sc.names.lookup x=some .cell): ∃c,(cellsFrom n sc.names []).lookup x=some c:=by
 have q:=lr sc.names n [] (.inl h)
 exact jV.mp q
theorem at9{CX:CXT}{cd:af}{outer:List Env}{s1:ak}{E:XK}{vs:List V}(S:FnScope N ps scope)(hd:A.handled=none)(e0:Env0 P w K mg base A outer s H)(hl:vs.length=ps.length)(r:jm vs us)(x:InCallC s s.heap.objs.size (bindL (envOfC qual scope s.heap.objs.size f cd).kindOf (ps.zip us) fun _=> none) (cellsFrom (s.heap.objs.size+1) scope.names []) (bindC (envOfC qual scope s.heap.objs.size f cd).kindOf (ps.zip us) fun _=> none) s1):
  Inv (zt CX P w K mg base N qual scope f cd A outer s H E) [] (start N vs) H s1:=by
 have hpl:ps.length <=N.length:=by have:=congrArg List.length S.pre;rw [bX]at this;lia
 obtain⟨h1,tk,rfl,hk⟩:=x.done
 have noA: ∀b:Addr,b∉(zt CX P w K mg base N qual scope f cd A outer s H E).ex:=fun b z=> absurd (show b∈([]:List Addr) from z) (by simp)
 refine⟨⟨e0.mod,S.kind,rfl,rfl,au _,fun y z c h1 h2=> ?_,fun y hy=> ?_,fun y c _ h=> ?_,fun _=> hd,Around.frames_deeper e0.frames,.inr ⟨rfl,rfl⟩,fun b z=> absurd z (noA b),e0.bs,e0.bsz,fun b _ _=> noA b,fun b z=> absurd z (noA b),e0.funs,e0.frf⟩,
  rfl,e0.bare,Un.kept hk,⟨_,x.toInCall.ns,fun i y v h1 h2 h3=> ?_⟩,fun y c h=> ⟨_,x.cell y c h⟩,e0.hok.fresh (au _),fun y c h=> ?_,fun p hp=> absurd (show p∈([]:List (Addr×Obj)) from hp) (by simp),e0.hok.kept hk,?_⟩
 ·exact name_of_addr x.apart (dL h1) (dL h2)
 ·have hy:scope.names.lookup y=some .cell\/scope.names.lookup y=some .free:=hy
  rcases hy with hy|hy
  ·exact anj hy
  ·exact absurd rfl (S.nofree _ (dL hy))
 ·exact gc (x.above y c (dL h))
 ·have hi:i < vs.length:=by
   unfold start at h2
   by_cases hi:i < vs.length
   ·exact hi
   ·rw [cv (by simpa using hi)]at h2
    rw [eQ]at h2
    split at h2 <;> cases h2
  have ha:vs[i]?=some v:=by
   unfold start at h2
   rw [bq (by simpa using hi),aL]at h2
   cases e:vs[i]? with
   |none=> rw [e]at h2;cases h2
   |some a=> rw [e]at h2;cases h2;rfl
  obtain⟨u,hu,rv⟩:=r.get ha
  have hp:ps[i]?=some y:=by
   rw [←S.pre,List.getElem?_take_of_lt (by lia)];exact h1
  have ndP:ps.Nodup:=by rw [←S.pre];exact S.nd.sublist (gE _ _)
  refine⟨u,rv,?_⟩
  rcases S.par y (bw hp) with k|k
  ·exact .inl ⟨k,akr ndP hp hu k⟩
  ·obtain⟨c,e⟩:=anj (n:=s.heap.objs.size+1) k
   refine .inr ⟨.inl k,c,e,?_⟩
   have q:=x.cell y c e
   rw [akj ndP hp hu (by show scope.names.lookup y≠_;rw [k];decide)]at q
   exact q
 ·exact e0.hok.fresh (gc (x.above y c (dL h)))
 ·unfold start
  show _=N.length
  rw [bv,ao,fz]
  lia
theorem a6w{CX:CXT}{params:Arguments}{body:List Stmt}{dV kV doc pm cdv ct oc:af}{an od:Option Addr}{sp:Sp}(lk:K.lookup f=some ⟨oc,od,.func (cZ name qual params body scope dV kV doc pm an cdv ct),osl⟩)(hcd:fA K cdv qual=true)(S:FnScope N ps scope)(len: ∀vs H Q E,sp vs H Q E -> vs.length=ps.length)(hbody: ∀(A:bj) (outer:List Env) (s:ak) (H:Hp) (vs:List V) (Q:VK) (E:XK),Room k (A.deeper (envOfC qual scope s.heap.objs.size f cdv)) -> sp vs H Q E ->
   ∃t,PSs (zt CX P w K mg base N qual scope f cdv A outer s H E) body t/\t {nx:=fun _ H'=> Q .non H',rt:=Q} (start N vs) H):
  FnOk P w K mg base CX (k+1) f (cZ name qual params body scope dV kV doc pm an cdv ct) ps sp:=by
 refine⟨len,fun A outer s H args us vs Q E hr e0 hb r hsp=> ?_⟩
 have hl:=len _ _ _ _ hsp
 have KX:K.In s.heap:=e0.mod.kin.keeps fun b o e=> (e0.bs b o e).1
 have lim:s.heap.NoLimit:=e0.mod.nolimit.keeps fun b o e=> (e0.bs b o e).1
 have hkind: ∀y∈ps.zip us,scope.names.lookup y.1=some .local\/(scope.names.lookup y.1=some .cell/\((cellsFrom (s.heap.objs.size+1) scope.names []).lookup y.1).isSome=true):=fun⟨n,v⟩ hy=> by
  rcases S.par n (f6 hy).1 with q|q
  ·exact .inl q
  ·exact .inr ⟨q,lr _ _ _ (.inl q)⟩
 refine codeAny_call_function hr.depth (KX _ _ lk) rfl S.co S.gen rfl (PySem.W.codeRec_of KX hcd) (hb _ _ _ _ ?_)
 refine wpAny_newFunctionEnv_cells S.kind hkind fun env he s1 x=> ?_
 subst he
 refine⟨lim.keeps x.toInCall.keep,codeAny_func ?_⟩
 obtain⟨t,ht,hq⟩:=hbody A outer s H vs Q E (hr.deeper _) hsp
 have I:Inv (zt CX P w K mg base N qual scope f cdv A outer s H E) [] (start N vs) H s1:=at9 S hr.hd e0 hl r x
 refine cL (ht [] s1 (start N vs) H _ I hq) (fun fl s' hs=> ?_) fun e s' hs=> hs
 have fin: ∀{σ':St} {H':Hp} {v:V} {u:af},Inv (zt CX P w K mg base N qual scope f cdv A outer s H E) [] σ' H' s' -> RelV v u -> Q v H' -> CE outer P w H s Q u s':=
  fun {σ' H' v u} J rv q=> ⟨v,H',J.os,J.bare,J.base,J.hok,rv,q⟩
 cases fl with
 |ret u=>
  obtain⟨v,σ',H',J,rv,q⟩:=hs
  exact fin J rv q
 |next=>
  obtain⟨σ',H',J,q⟩:=hs
  exact fin (v:=V.non) (u:=aZ) J rfl q
 |brk=>
  obtain⟨_,_,_,q⟩:=hs
  exact dA q
 |cont=>
  obtain⟨_,_,_,q⟩:=hs
  exact dA q
section
variable{X:Cx}{x:Str}{p pos:Pos}{e:Expr}{es:List Expr}{t:TA}{id T:String}{r:List V -> Hp -> VK -> Prop}
noncomputable def tCB(r:List V -> Hp -> VK -> Prop)(t:TA):TE:=fun σ H Q=> t σ H fun vs H1=> r vs H1 Q
theorem ahg(hc:vb X (.builtin id) r)(hg:Gl X x)(hm:X.mg x=none)(hv:bo x=some (.builtin id))(ha:PA X (e::es) t)(hn:x≠"__name__":=by decide)(hdb:(x==("__debug__":Str))=false:=by decide)
  (he:starEach (e::es) X.env=(false,eval e X.env)::starEach es X.env:=by rfl) (hpl:(backTo pos (starEach es X.env)).any (·.1)=false:=by rfl):PE X (.Call (.Name x p) (e::es) [] pos) (tCB r t):=by
 (first|refine⟨?_⟩|skip);intro pins s σ H Q I h
 refine gg (aco I hg hm hv ?_ hn hdb)
 exact h9 (thn (ha pos pins s σ H _ I h) fun us s1 ⟨vs,H1,I1,r1,q1⟩=> hc pins s1 σ H1 vs us Q I1 r1 q1) he hpl
theorem afy(hc:vb X (.type T) r)(hg:Gl X x)(hm:X.mg x=none)(hv:bo x=some (.type T))(ha:PA X (e::es) t)(hn:x≠"__name__":=by decide)(hdb:(x==("__debug__":Str))=false:=by decide)
  (he:starEach (e::es) X.env=(false,eval e X.env)::starEach es X.env:=by rfl) (hpl:(backTo pos (starEach es X.env)).any (·.1)=false:=by rfl):PE X (.Call (.Name x p) (e::es) [] pos) (tCB r t):=by
 (first|refine⟨?_⟩|skip);intro pins s σ H Q I h
 refine gg (aco I hg hm hv ?_ hn hdb)
 exact dS (thn (ha pos pins s σ H _ I h) fun us s1 ⟨vs,H1,I1,r1,q1⟩=> hc pins s1 σ H1 vs us Q I1 r1 q1) he hpl
end
end L2
namespace HT
open PySem PyProof.Rows
theorem cat_tup{t b:Addr}{vs ws:List af}(ht:IsTup s.heap t vs.toArray)(hb:IsTup s.heap b ws.toArray)(hv:vs≠ [])(h1:ws=[] -> Q (.ref t) s)(h2:ws≠ [] -> Q (.ref s.heap.objs.size) {s with heap:=s.heap.push {cls:=.type "tuple",data:=.seq (vs++ws).toArray}})(hsz:vs.length+ws.length <=sizeLine):wpAny (model prog w) A (binaryOp .Add (.ref t) (.ref b)) Q E s:=by
 obtain⟨⟨cls,dd,data,sl⟩,ho,hc,n,hd⟩:=id ht
 obtain⟨⟨cls2,dd2,data2,sl2⟩,ho2,hc2,n2,hd2⟩:=id hb
 simp only at hc hd hc2 hd2
 subst hc hd hc2 hd2
 have e:vs.toArray++ws.toArray=(vs++ws).toArray:=by simp
 by_cases hw:ws=[]
 ·exact mR ⟨_,ho,rfl⟩ ⟨_,ho2,rfl⟩ jW mi gK gC (gh _ _)
   (tuple_addW1 t b vs.toArray ws.toArray n n2 dd dd2 sl sl2 (by simpa using hv) (by simp [hw])) ⟨ho,ho2,h1 hw⟩
 ·refine mR ⟨_,ho,rfl⟩ ⟨_,ho2,rfl⟩ jW mi gK gC (gh _ _)
   (tuple_addW2 t b vs.toArray ws.toArray n n2 dd dd2 sl sl2 (by simpa using hv) (by simpa using hw) (by rw [ax,ax];exact hsz)) ⟨ho,ho2,?_⟩
  rw [e]
  exact h2 hw
noncomputable def sIx(n d:Nat):Option Int -> Nat
 |none=> d
 |some v=> if v < 0 then (v+(n:Int)).toNat else min v.toNat n
theorem sIx_none(n d:Nat):sIx n d none=d:=rfl
theorem sIx_nat(n d k:Nat):sIx n d (some (k:Int))=min k n:=by
 show (if (k:Int) < 0 then ((k:Int)+(n:Int)).toNat else min (k:Int).toNat n)=min k n
 rw [if_neg (by lia),dh]
theorem a4m(n d:Nat)(hd:d <=n)(o:Option Int):sIx n d o <=n:=by
 cases o with
 |none=> exact hd
 |some v=>
  show (if v < 0 then (v+(n:Int)).toNat else min v.toNat n) <=n
  by_cases hv:v < 0
  ·rw [if_pos hv];lia
  ·rw [if_neg hv];exact Nat.min_le_right _ _
theorem aq4(v:Int)(n d:Nat):(if v < 0 then max (v+(n:Int)) 0 else min v (n:Int))=((sIx n d (some v):Nat):Int):=by
 show (if v < 0 then max (v+(n:Int)) 0 else min v (n:Int))=(((if v < 0 then (v+(n:Int)).toNat else min v.toNat n):Nat):Int)
 by_cases hv:v < 0
 ·simp only [if_pos hv];lia
 ·simp only [if_neg hv];lia
theorem ark(lo hi:Option Int)(n:Nat):cT lo hi 1 (n:Int)=(((sIx n 0 lo:Nat):Int),((sIx n n hi:Nat):Int)):=by
 have h1: ¬((1:Int) < 0):=by lia
 unfold cT
 simp only [h1,if_false]
 refine Prod.ext ?_ ?_
 ·cases lo with
  |none=> rfl
  |some v=> exact aq4 v n 0
 ·cases hi with
  |none=> rfl
  |some v=> exact aq4 v n n
theorem arw(i j:Nat):cb (i:Int) (j:Int) 1=j - i:=by
 unfold cb
 have h1:(1:Int)> 0:=by lia
 simp only [h1,if_true,Int.ediv_one]
 split <;> lia
theorem ahw{v:af}{o:Option Int}{Q:Option Int -> ak -> Prop}(p:gL v o)(h:Q o s):wpAny (model prog w) A (Builtin.Slice.slicePartIndex v) Q E s:=by
 cases p with
 |none=> exact iA h
 |int i t=> exact slicePart_int h
theorem ac3{sl:Addr}{vl vu:af}{lo hi:Option Int}{Q:Int×Int×Nat -> ak -> Prop}(hs:s.heap.IsSliceOf sl vl vu .none)(pl:gL vl lo)(pu:gL vu hi)(h:Q (((sIx n 0 lo:Nat):Int),1,sIx n n hi - sIx n 0 lo) s):wpAny (model prog w) A (fS (.ref sl) (pure (n:Int))) Q E s:=by
 obtain⟨os,hos,hcs,hds⟩:=id hs
 unfold fS jN
 refine ae (ae (a7 hos hds (x:=vl) rfl (ae (a7 hos hds (x:=vu) rfl (ae (a7 hos hds (x:=.none) rfl (ah ?_)))))))
 refine ae (iA ?_)
 show wpAny _ _ (if ((1:Int)==0)=true then _ else _) _ _ s
 rw [if_neg (by decide)]
 refine ae (ahw pl (ae (ahw pu (ae (ah ?_)))))
 show wpAny _ _ (match cT lo hi 1 (n:Int) with|(lo,hi)=> pure (lo,(1:Int),cb lo hi 1)) _ _ s
 rw [ark lo hi n]
 show wpAny _ _ (pure (((sIx n 0 lo:Nat):Int),(1:Int),cb ((sIx n 0 lo:Nat):Int) ((sIx n n hi:Nat):Int) 1)) _ _ s
 rw [arw]
 exact ah h
theorem ay2(xs:Array af)(i k:Nat):((bn k).filterMap fun (m:Nat)=> xs[((i:Int)+(m:Int)*1).toNat]?).toArray=((xs.toList.drop i).take k).toArray:=by
 have e:(fun (m:Nat)=> xs[((i:Int)+(m:Int)*1).toNat]?)=fun m=> xs[i+m]?:=by
  funext m
  have:((i:Int)+(m:Int)*1).toNat=i+m:=by lia
  rw [this]
 rw [e]
 have:=pick_run xs i k
 rw [List.filterMap_map]at this
 have e2:((fun x=> xs[x]?)∘fun x=> i+x)=fun m=> xs[i+m]?:=rfl
 rw [e2]at this
 rw [this]
theorem getItem_tuple_cut{t sl:Addr}{vl vu:af}{lo hi:Option Int}(ht:IsTup s.heap t items)(hs:s.heap.IsSliceOf sl vl vu .none)(pl:gL vl lo)(pu:gL vu hi)(hw: ¬(sIx items.size 0 lo=0/\sIx items.size items.size hi=items.size))(h:Q (.ref s.heap.objs.size) {s with heap:=s.heap.push {cls:=.type "tuple",data:=.seq ((items.toList.drop (sIx items.size 0 lo)).take (sIx items.size items.size hi - sIx items.size 0 lo)).toArray}})(hsz:items.size <=sizeLine):wpAny (model prog w) A (getItem (.ref t) (.ref sl)) Q E s:=by
 have htake:sizeOk (.seq ((items.toList.drop (sIx items.size 0 lo)).take (sIx items.size items.size hi - sIx items.size 0 lo)).toArray):=by
  show ((items.toList.drop (sIx items.size 0 lo)).take (sIx items.size items.size hi - sIx items.size 0 lo)).toArray.size <=sizeLine
  rw [ax,bX,eI,aK]
  lia
 have hj:sIx items.size items.size hi <=items.size:=a4m _ _ (au _) hi
 obtain⟨os,hos,hcs,hds⟩:=id hs
 have hTs:s.TypeIs (.ref sl) "slice":=⟨os,hos,hcs⟩
 unfold getItem
 try with_reducible refine bC ?_
 first|refine ae (ah ?_)|skip
 refine ae (jG ht.typeIs (by decide) ?_)
 refine ae (br (name:=bg "__getitem__") ht.typeIs bz
  (bu bz ht.typeIs ir ?_ (iR _ _)))
 show wpAny _ _ (d6 (.ref t)>>=_) _ _ s
 refine ae (mj ht ?_)
 refine ae (eJ hTs ?_)
 rw [if_pos (by decide)]
 refine ae (ac3 hs pl pu ?_)
 have hno: ¬((((sIx items.size 0 lo:Nat):Int)==0&&(1:Int)==1&&(sIx items.size items.size hi - sIx items.size 0 lo)==items.size)=true):=by
  intro q
  rw [aG,aG]at q
  have q1:((sIx items.size 0 lo:Nat):Int)=0:=eq_of_beq q.1.1
  have q2:sIx items.size items.size hi - sIx items.size 0 lo=items.size:=eq_of_beq q.2
  exact hw ⟨by lia,by lia⟩
 show wpAny _ _ (if (((sIx items.size 0 lo:Nat):Int)==0&&(1:Int)==1&&(sIx items.size items.size hi - sIx items.size 0 lo)==items.size)=true then _ else _) _ _ s
 rw [if_neg hno,ay2]
 first
  |exact ae (m:=c7 _) (bD (ah ⟨_,rfl,ah h⟩) htake)
  |exact ae (m:=c7 _) (bD (ae (ah (ah ⟨_,rfl,ah h⟩))) htake)
  |exact ae (ae (m:=c7 _) (bD (ah (ah ⟨_,rfl,ah h⟩)) htake))
  |exact ae (ae (m:=c7 _) (bD (ah ⟨_,rfl,ah h⟩) htake))
end HT
namespace L2
open PySem PySem.Spec PyProof.Rows
abbrev TO:=St -> Hp -> (Option Int -> Hp -> Prop) -> Prop
def PO(X:Cx)(e:Option Expr)(t:TO):Prop:=
 ∀(pins:List (Addr×Obj)) (s:ak) (σ:St) (H:Hp) (Q:Option Int -> Hp -> Prop),Inv X pins σ H s -> t σ H Q ->
  wpAny (model X.prog X.w) X.A (evalPart e X.env) (fun u s'=> ∃o H',Inv X pins σ H' s'/\gL u o/\Q o H') X.xe s
noncomputable def a2v:TO:=fun _ H Q=> Q none H
noncomputable def a8f(t:TE):TO:=fun σ H Q=> t σ H fun x H1=> ∃i,x=.int i/\Q (some i) H1
section
variable{X:Cx}{e:Expr}{te:TE}{lo hi:Option Expr}{tl th:TO}{pos p2:Pos}
theorem a0r:PO X none a2v:=by
 (first|refine⟨?_⟩|skip);intro pins s σ H Q I h
 rw [ml]
 exact ah ⟨none,H,I,.none,h⟩
theorem a10(h:PE X e te):PO X (some e) (a8f te):=by
 (first|refine⟨?_⟩|skip);intro pins s σ H Q I hw
 rw [evalPart_some]
 refine thn (h pins s σ H _ I hw) fun u s1 ⟨x,H1,I1,r1,q1⟩=> ?_
 obtain⟨i,rfl,q⟩:=q1
 obtain⟨t,rfl⟩:=r1
 exact⟨some i,H1,I1,.int i t,q⟩
def SlR(X:Cx)(r:V -> Option Int -> Option Int -> Hp -> VK -> Prop):Prop:=
 ∀(pins:List (Addr×Obj)) (s:ak) (σ:St) (H:Hp) (x:V) (v vl vu:af) (lo hi:Option Int) (sl:Addr) (Q:VK),Inv X pins σ H s -> RelV x v -> s.heap.IsSliceOf sl vl vu .none -> gL vl lo -> gL vu hi -> r x lo hi H Q ->
  ∃T id,typeLookup (.type T) "__getitem__"=pure (some (.builtin id))/\s.TypeIs v T/\wpAny (model X.prog X.w) X.A (getItem v (.ref sl)) (EP X pins σ Q) X.xe s
theorem SlR.or{r r':V -> Option Int -> Option Int -> Hp -> VK -> Prop}(h:SlR X r)(h':SlR X r'):SlR X (fun x lo hi H Q=> r x lo hi H Q\/r' x lo hi H Q):=by
 (first|refine⟨?_⟩|skip);intro pins s σ H x v vl vu lo hi sl Q I rx hs pl pu q
 rcases q with q|q
 ·exact h pins s σ H x v vl vu lo hi sl Q I rx hs pl pu q
 ·exact h' pins s σ H x v vl vu lo hi sl Q I rx hs pl pu q
noncomputable def tSl(r:V -> Option Int -> Option Int -> Hp -> VK -> Prop)(te:TE)(tl th:TO):TE:=fun σ H Q=> te σ H fun x H1=> tl σ H1 fun l H2=> th σ H2 fun u H3=> r x l u H3 Q
theorem ay1{r:V -> Option Int -> Option Int -> Hp -> VK -> Prop}(hr:SlR X r)(he:PE X e te)(hl:PO X lo tl)(hu:PO X hi th):PE X (.Subscript e (.Slice lo hi none p2) pos) (tSl r te tl th):=by
 (first|refine⟨?_⟩|skip);intro pins s σ H Q I h
 refine Subscript_ (thn (he pins s σ H _ I h) fun v s1 ⟨x,H1,I1,r1,q1⟩=> ?_)
 refine wpAny_Slice (thn (hl pins s1 σ H1 _ I1 q1) fun vl s2 ⟨l,H2,I2,pl,q2⟩=> thn (hu pins s2 σ H2 _ I2 q2) fun vu s3 ⟨u,H3,I3,pu,q3⟩=> ?_)
 rw [ml]
 refine ah ?_
 have I4:Inv X pins σ H3 {s3 with heap:=s3.heap.push {cls:=.type "slice",data:=.fields #[vl,vu,.none]}}:=I3.kept (t':=s3.toks) fun b ob q=> aj _ q
 obtain⟨T,id,hT,ht,hg⟩:=hr pins {s3 with heap:=s3.heap.push {cls:=.type "slice",data:=.fields #[vl,vu,.none]}} σ H3 x v vl vu l u s3.heap.objs.size Q I4 r1 (Heap.IsSliceOf.new ..) pl pu q3
 show wpAny (model X.prog X.w) X.A (mn e (.Slice lo hi none p2) v (.ref s3.heap.objs.size)) (EP X pins σ Q) X.xe {s3 with heap:=s3.heap.push {cls:=.type "slice",data:=.fields #[vl,vu,.none]}}
 exact tail_any (ops:=[.ref s3.heap.objs.size,v]) ht hT hg (by with_unfolding_all rfl)
def zm(xs:List V)(lo hi:Option Int):List V:=(xs.drop (HT.sIx xs.length 0 lo)).take (HT.sIx xs.length xs.length hi - HT.sIx xs.length 0 lo)
theorem ah2(xs:List V)(lo hi:Option Int):(zm xs lo hi).length <=xs.length:=by
 unfold zm
 rw [bX,eI]
 lia
def a8t(K:am):V -> Option Int -> Option Int -> Hp -> VK -> Prop:=fun x lo hi H Q=> ∃a xs,x=.ref a/\SqT K H a xs/\
 ¬(HT.sIx xs.length 0 lo=0/\HT.sIx xs.length xs.length hi=xs.length)/\ ∀p,H p=none -> Q (.ref p) (upd H p (.tup (zm xs lo hi)))
theorem aux:SlR X (a8t X.K):=by
 (first|refine⟨?_⟩|skip);intro pins s σ H x v vl vu lo hi sl Q I rx hs pl pu h
 obtain⟨a,xs,rfl,hx,hw,q⟩:=h
 cases rx
 obtain⟨its,r,ht,hz⟩:=I.tuple hx
 have hlen:its.toArray.size=xs.length:=by rw [ax];exact r.length.symm
 refine⟨"tuple",_,bz.lookup,ht.typeIs,?_⟩
 refine HT.getItem_tuple_cut ht hs pl pu (by rw [hlen];exact hw) ?_ (by rw [hlen];exact hz)
 rw [hlen]
 refine⟨.ref s.heap.objs.size,_,I.laid (t':=s.toks) (o:=.tup (zm xs lo hi)) (fun b ob q=> aj _ q) (au _) ?_,rfl,q _ (I.hok.fresh (au _))⟩
 exact⟨aH (ah2 xs lo hi) hz,_,(r.drop (HT.sIx xs.length 0 lo)).take (HT.sIx xs.length xs.length hi - HT.sIx xs.length 0 lo),ael.new _ _⟩
def a8l(K:am):R2:=fun x y H Q=> ∃a b xs ys,x=.ref a/\y=.ref b/\SqT K H a xs/\SqT K H b ys/\xs≠ []/\xs.length+ys.length <=sizeLine/\
 (ys=[] -> Q (.ref a) H)/\(ys≠ [] -> ∀p,H p=none -> Q (.ref p) (upd H p (.tup (xs++ys))))
theorem jm.nil_iff(r:jm xs us):us=[] ↔ xs=[]:=by
 cases r with
 |nil=> simp
 |cons _ _=> simp
theorem a0q:OpR X (binaryOp .Add) (a8l X.K):=by
 (first|refine⟨?_⟩|skip);intro pins s σ H x y v u Q I rx ry h
 obtain⟨a,b,xs,ys,rfl,rfl,ha,hb,hx,hz,q1,q2⟩:=h
 cases rx
 cases ry
 obtain⟨its,r1,p1,_⟩:=I.tuple ha
 obtain⟨its2,r2,p2,_⟩:=I.tuple hb
 refine HT.cat_tup p1 p2 (fun z=> hx (r1.nil_iff.mp z)) (fun z=> ⟨.ref a,H,I,rfl,q1 (r2.nil_iff.mp z)⟩) (fun z=> ?_) (by rw [←r1.length,←r2.length];exact hz)
 refine⟨.ref s.heap.objs.size,_,I.laid (t':=s.toks) (o:=.tup (xs++ys)) (fun b ob q=> aj _ q) (au _) ?_,rfl,q2 (fun w=> z (r2.nil_iff.mpr w)) _ (I.hok.fresh (au _))⟩
 exact⟨by rw [bv];exact hz,_,r1.append r2,ael.new _ _⟩
end
noncomputable def ixN(n:Nat)(i:Int):Option Nat:=if 0 <=i then (if i < n then some i.toNat else none) else if -(n:Int) <=i then some (i+n).toNat else none
def atI{α:Type}(xs:List α)(i:Int):Option α:=(ixN xs.length i).bind fun j=> xs[j]?
theorem ap4{i:Int}(h:ixN n i=some j):iS i n=some j/\j < n/\ -(n:Int) <=i/\i < n:=by
 unfold ixN at h
 by_cases h0:0 <=i
 ·rw [if_pos h0]at h
  by_cases h1:i < n
  ·rw [if_pos h1]at h
   have e:i.toNat=j:=cq h
   exact⟨by rw [nk h0 h1,e],by lia,by lia,h1⟩
  ·rw [if_neg h1]at h;cases h
 ·rw [if_neg h0]at h
  by_cases h1: -(n:Int) <=i
  ·rw [if_pos h1]at h
   have e:(i+n).toNat=j:=cq h
   exact⟨by rw [mS (by lia) h1,e],by lia,h1,by lia⟩
  ·rw [if_neg h1]at h;cases h
theorem ak0{α:Type}{xs:List α}{i:Int}{v:α}(h:atI xs i=some v): ∃j,iS i xs.length=some j/\xs[j]?=some v/\j < xs.length/\ -(xs.length:Int) <=i/\i < xs.length:=by
 unfold atI at h
 cases e:ixN xs.length i with
 |none=> rw [e]at h;cases h
 |some j=>
  rw [e]at h
  obtain⟨h1,h2,h3,h4⟩:=ap4 e
  exact⟨j,h1,h,h2,h3,h4⟩
theorem agp{α:Type}{xs:List α}{v:α}(h:xs[j]?=some v):atI xs (j:Int)=some v:=by
 have hj:j < xs.length:=(aE.mp h).1
 have e:ixN xs.length (j:Int)=some j:=by
  unfold ixN
  rw [if_pos (by lia),if_pos (by lia)];simp
 unfold atI;rw [e];exact h
def aol(b:Expr):Prop:= ∀o i,subscripted b false o i=operate [o,i] (getItem o i)
def IxR(X:Cx)(r:R2):Prop:=
 ∀(value slice:Expr) (pins:List (Addr×Obj)) (s:ak) (σ:St) (H:Hp) (x y:V) (v u:af) (Q:VK),Inv X pins σ H s -> RelV x v -> RelV y u -> r x y H Q ->
  subscripted slice false v u=operate [v,u] (getItem v u) -> wpAny (model X.prog X.w) X.A (mn value slice v u) (EP X pins σ Q) X.xe s
def MtR(X:Cx)(id:String)(r:V -> List V -> Hp -> VK -> Prop):Prop:=
 ∀(pins:List (Addr×Obj)) (s:ak) (σ:St) (H:Hp) (x:V) (xs:List V) (v:af) (us:List af) (Q:VK),Inv X pins σ H s -> RelV x v -> jm xs us -> r x xs H Q ->
  wpAny (model X.prog X.w) X.A (call (.builtin id) (v::us)) (EP X pins σ Q) X.xe s
section
variable{X:Cx}{a b:Expr}{ta tb:TE}{pos:Pos}
theorem IxR.or{r r':R2}(h:IxR X r)(h':IxR X r'):IxR X (fun x y H Q=> r x y H Q\/r' x y H Q):=by
 intro value slice pins s σ H x y v u Q I rx ry q hs
 rcases q with q|q
 ·exact h value slice pins s σ H x y v u Q I rx ry q hs
 ·exact h' value slice pins s σ H x y v u Q I rx ry q hs
theorem a7o{r:R2}(hr:IxR X r)(ha:PE X a ta)(hb:PE X b tb)(hs:aol b):PE X (.Subscript a b pos) (tOp r ta tb):=by
 (first|refine⟨?_⟩|skip);intro pins s σ H Q I h
 exact Subscript_ (axp ha hb I h fun v u s2 x y H2 I2 rx ry q=> hr a b pins s2 σ H2 x y v u Q I2 rx ry q (hs _ _))
def a69(K:am):R2:=fun x y H Q=> ∃p xs i v,x=.ref p/\y=.int i/\SqL K H p xs/\atI xs i=some v/\Q v H
def a56(K:am):R2:=fun x y H Q=> ∃p xs i v,x=.ref p/\y=.int i/\SqT K H p xs/\atI xs i=some v/\Q v H
def a3q:R2:=fun x y H Q=> ∃z i c,x=.str z/\y=.int i/\z.length <=sizeLine/\atI z.cps.toList i=some c/\Q (.str ⟨#[c]⟩) H
theorem a0s:IxR X (a69 X.K):=by
 intro value slice pins s σ H x y v u Q I rx ry h hs
 obtain⟨p,xs,i,z,rfl,rfl,hq,he,q⟩:=h
 cases rx
 obtain⟨t,rfl⟩:=ry
 obtain⟨its,r,pl,hz⟩:=I.list hq
 obtain⟨j,h1,h2,h3,h4,h5⟩:=ak0 he
 obtain⟨w,ew,rw'⟩:=r.get h2
 have hl:=r.length
 have hn:=acm
 have fin:EP X pins σ Q w s:=⟨z,H,I,rw',q⟩
 by_cases h0:0 <=i
 ·have hj:i.toNat=j:=by
   rw [nk h0 h5]at h1
   exact cq h1
  exact item_listR pl.isList h0 (by lia) (by rw [hj];simpa using ew) fin hs
 ·have hj:(i+(its.toArray.size:Int)).toNat=j:=by
   rw [mS (by lia) h4]at h1
   rw [ax,←hl]
   exact cq h1
  exact lu (x:=w) pl.isList.typeIs slot_list_getitem.lookup
   (wpAny_getItem_list_neg (Q:=fun r s'=> r=w/\EP X pins σ Q r s') pl.isList (by lia) (by rw [ax] <;> lia) (by lia) (by rw [hj];simpa using ew) ⟨rfl,fin⟩) hs
theorem a54:IxR X (a56 X.K):=by
 intro value slice pins s σ H x y v u Q I rx ry h hs
 obtain⟨p,xs,i,z,rfl,rfl,hq,he,q⟩:=h
 cases rx
 obtain⟨t,rfl⟩:=ry
 obtain⟨its,r,pl,hz⟩:=I.tuple hq
 obtain⟨j,h1,h2,h3,h4,h5⟩:=ak0 he
 obtain⟨w,ew,rw'⟩:=r.get h2
 have hl:=r.length
 have hn:=acm
 have fin:EP X pins σ Q w s:=⟨z,H,I,rw',q⟩
 exact lu (x:=w) pl.typeIs slot_tuple_getitem.lookup
  (getItem_tuple (j:=j) (Q:=fun r s'=> r=w/\EP X pins σ Q r s') pl (by lia) (by lia) (by rw [ax,←hl];exact h1) (by simpa using ew) ⟨rfl,fin⟩) hs
theorem ai9:IxR X a3q:=by
 intro value slice pins s σ H x y v u Q I rx ry h hs
 obtain⟨z,i,c,rfl,rfl,hz,he,q⟩:=h
 obtain⟨t,rfl⟩:=rx
 obtain⟨t',rfl⟩:=ry
 obtain⟨j,h1,h2,h3,h4,h5⟩:=ak0 he
 have hl:z.cps.toList.length=z.length:=by simp [Str.length]
 rw [hl]at h1 h4 h5
 have hn:=acm
 exact tail_any (typeIs_str s z t) slot_str_getitem.lookup (getItem_str (c:=c) (by
  have e1:decide (i < -(2^63:Int))=false:=decide_eq_false (by lia)
  have e2:decide (i≥2^63)=false:=decide_eq_false (by lia)
  rw [e1,e2,mo]) (by rw [h1];simpa using h2) ⟨.str ⟨#[c]⟩,H,I.tok _,⟨_,rfl⟩,q⟩) hs
def rIx(K:am):R2:=fun x y H Q=> a69 K x y H Q\/a56 K x y H Q\/a3q x y H Q
theorem a6f:IxR X (rIx X.K):=a0s.or (a54.or ai9)
theorem ar3(its:List af)(n j:Nat)(u:af):eA (·.setIfInBounds j u) {cls:=.type "list",data:=.seq its.toArray n}={cls:=.type "list",data:=.seq (its.set j u).toArray n}:=by
 simp [eA]
theorem Inv.lst(I:Inv X pins σ H s)(h:H p=some (.lst xs)):
  ∃(its:List af) (n:Nat),jm xs its/\s.heap.get? p=some {cls:=.type "list",data:=.seq its.toArray n}/\xs.length <=sizeLine:=by
 obtain⟨z,its,n,r,e⟩:=I.hok p _ h
 exact⟨its,n,r,e,z⟩
theorem Inv.lstUpd{its':List af}{n':Nat}{f:Obj -> Obj}(I:Inv X pins σ H s)(h:H p=some (.lst xs))(ho:s.heap.get? p=some {cls:=.type "list",data:=.seq its.toArray n})(hf:f {cls:=.type "list",data:=.seq its.toArray n}={cls:=.type "list",data:=.seq its'.toArray n'})(r:jm ys its')(hz:ys.length <=sizeLine)(t:Nat):
  Inv X pins σ (upd H p (.lst ys)) {s with heap:=s.heap.update p f,toks:=t}:=by
 have e:(s.heap.update p f).get? p=some {cls:=.type "list",data:=.seq its'.toArray n'}:=by
  rw [bK f ho (by rw [hf] <;> rfl),hf]
 refine I.write (x:=p) (e:=p) (by rw [h];trivial) (.inl rfl) (fun b u hb q=> (bO _ _ (cW hb)).trans q) ⟨_,e⟩ ?_
 exact⟨hz,its',n',r,e⟩
def a6z:V -> V -> V -> Hp -> (Hp -> Prop) -> Prop:=fun o i v H Q=> ∃p xs k j,o=.ref p/\i=.int k/\H p=some (.lst xs)/\ixN xs.length k=some j/\Q (upd H p (.lst (xs.set j v)))
theorem ayh:aj7 X a6z:=by
 (first|refine⟨?_⟩|skip);intro pins s σ H o i v ov iv u Q I ro ri rv h
 obtain⟨p,xs,k,j,rfl,rfl,hp,hj,q⟩:=h
 cases ro
 obtain⟨t,rfl⟩:=ri
 obtain⟨its,n,r,ho,hz⟩:=I.lst hp
 obtain⟨h1,h2,h3,h4⟩:=ap4 hj
 have hl:=r.length
 have hn:=acm
 have I':Inv X pins σ (upd H p (.lst (xs.set j v))) {s with heap:=s.heap.update p (eA (·.setIfInBounds j u))}:=
  I.lstUpd hp ho (ar3 its n j u) (r.set rv j) (by rw [List.length_set];exact hz) s.toks
 by_cases h0:0 <=k
 ·have hk:k.toNat=j:=by
   rw [nk h0 h4]at h1
   exact cq h1
  exact PySem.W.ki_setAt ho h0 (by lia) (by rw [ax,←hl];exact h4) (by rw [hk];exact⟨_,I',q⟩)
 ·have hk:(k+(its.toArray.size:Int)).toNat=j:=by
   rw [mS (by lia) h3]at h1
   rw [ax,←hl]
   exact cq h1
  exact PySem.W.ki_setBack ho (by lia) (by rw [ax,←hl];exact h3) (by lia) (by rw [hk];exact⟨_,I',q⟩)
theorem ant(lo hi:Option Int)(n:Nat):(fX lo hi none n).1=((HT.sIx n 0 lo:Nat):Int)/\(fX lo hi none n).2.1=((HT.sIx n n hi:Nat):Int)/\(fX lo hi none n).2.2=1:=by
 refine⟨?_,?_,rfl⟩
 ·cases lo with
  |none=> simp [fX,HT.sIx]
  |some i=>
   simp only [fX,HT.sIx,jX,show (1:Int)> 0 by decide,if_true]
   by_cases h:i < 0
   ·simp only [h,if_true] <;> lia
   ·simp only [h,if_false] <;> lia
 ·cases hi with
  |none=> simp [fX,HT.sIx]
  |some i=>
   simp only [fX,HT.sIx,jX,show (1:Int)> 0 by decide,if_true]
   by_cases h:i < 0
   ·simp only [h,if_true] <;> lia
   ·simp only [h,if_false] <;> lia
theorem alc(its:List af)(lo hi:Option Int):slicePick its.toArray lo hi none=((its.drop (HT.sIx its.length 0 lo)).take (HT.sIx its.length its.length hi - HT.sIx its.length 0 lo)).toArray:=by
 obtain⟨h1,h2,h3⟩:=ant lo hi its.toArray.size
 unfold slicePick
 rw [h1,h2,h3]
 simp only [sliceRange_one,pick_run,ax] <;> rfl
def a9b(K:am):V -> Option Int -> Option Int -> Hp -> VK -> Prop:=fun x lo hi H Q=> ∃a xs,x=.ref a/\SqL K H a xs/\ ∀p,H p=none -> Q (.ref p) (upd H p (.lst (zm xs lo hi)))
theorem a1b:SlR X (a9b X.K):=by
 (first|refine⟨?_⟩|skip);intro pins s σ H x v vl vu lo hi sl Q I rx hs pl pu h
 obtain⟨a,xs,rfl,hx,q⟩:=h
 cases rx
 obtain⟨its,r,ht,hz⟩:=I.list hx
 have hlen:=r.length
 refine⟨"list",_,slot_list_getitem.lookup,ht.isList.typeIs,?_⟩
 refine wpAny_getItem_list_slice ht.isList hs pl pu .none (by simp) ?_ (by rw [ax] <;> lia)
 rw [alc,←hlen]
 refine⟨.ref s.heap.objs.size,_,I.laid (t':=s.toks) (o:=.lst (zm xs lo hi)) (fun b ob q=> aj _ q) (au _) ?_,rfl,q _ (I.hok.fresh (au _))⟩
 exact⟨aH (ah2 xs lo hi) hz,_,0,(r.drop (HT.sIx xs.length 0 lo)).take (HT.sIx xs.length xs.length hi - HT.sIx xs.length 0 lo),aA _ rfl⟩
theorem alv:vb X (.builtin "len") (fun xs H Q=> ∃p ys,xs=[.ref p]/\(SqL X.K H p ys\/SqT X.K H p ys)/\Q (.int ys.length) H):=by
 (first|refine⟨?_⟩|skip);intro pins s σ H xs us Q I r h
 obtain⟨p,ys,rfl,hq,q⟩:=h
 obtain⟨u,rfl,rx⟩:=vals1 r
 cases rx
 have hn:=acm
 rcases hq with hq|hq
 ·obtain⟨its,r',pl,hz⟩:=I.list hq
  have hlen:=r'.length
  exact Calls.call_len_list pl.isList (by simp only [ax] <;> lia) ⟨.int ys.length,H,I.tok _,⟨s.toks+1,by rw [ax,hlen]⟩,q⟩
 ·obtain⟨its,r',pl,hz⟩:=I.tuple hq
  have hlen:=r'.length
  exact len_tuple pl (by simp only [ax] <;> lia) ⟨.int ys.length,H,I.tok _,⟨s.toks+1,by rw [ax,hlen]⟩,q⟩
theorem am0:vb X (.builtin "len") (fun xs H Q=> ∃z,xs=[.str z]/\z.length <=sizeLine/\Q (.int z.length) H):=by
 (first|refine⟨?_⟩|skip);intro pins s σ H xs us Q I r h
 obtain⟨z,rfl,hz,q⟩:=h
 obtain⟨u,rfl,t,rfl⟩:=vals1 r
 have hn:=acm
 exact len_str (by lia) ⟨.int z.length,H,I.tok _,⟨_,rfl⟩,q⟩
theorem alz:vb X (.type "list") (fun xs H Q=> ∃p ys,xs=[.ref p]/\(SqL X.K H p ys\/SqT X.K H p ys)/\ ∀l,H l=none -> Q (.ref l) (upd H l (.lst ys))):=by
 (first|refine⟨?_⟩|skip);intro pins s σ H xs us Q I r h
 obtain⟨p,ys,rfl,hq,q⟩:=h
 obtain⟨u,rfl,rx⟩:=vals1 r
 cases rx
 have fin: ∀(its:List af),jm ys its -> ys.length <=sizeLine -> ∀(h':Heap) (c':Nat),(∀b o',s.heap.get? b=some o' -> h'.get? b=some o') ->
   h'.get? s.heap.objs.size=some {cls:=.type "list",dict:=none,data:=.seq its.toArray c',slots:= #[]} -> EP X pins σ Q (.ref s.heap.objs.size) {s with heap:=h'}:=fun its r' hz h' c' kp e=>
  ⟨.ref s.heap.objs.size,_,I.laid (t':=s.toks) kp (au _) (show ke X.prog X.w _ h' _ (.lst ys) from ⟨hz,its,c',r',e⟩),rfl,q _ (I.hok.fresh (au _))⟩
 rcases hq with hq|hq
 ·obtain⟨its,r',pl,hz⟩:=I.list hq
  have hlen:=r'.length
  obtain⟨o,ho,hc,n,hd⟩:=pl.isList
  exact call_list_seq p (.inl rfl) ho hc hd (fun h' c' kp e=> fin its r' hz h' c' kp e) (by simp only [ax] <;> lia)
 ·obtain⟨its,r',pl,hz⟩:=I.tuple hq
  have hlen:=r'.length
  obtain⟨o,ho,hc,n,hd⟩:=pl
  exact call_list_seq p (.inr rfl) ho hc hd (fun h' c' kp e=> fin its r' hz h' c' kp e) (by simp only [ax] <;> lia)
theorem alf:vb X (.type "tuple") (fun xs H Q=> ∃p ys,xs=[.ref p]/\((SqL X.K H p ys/\ ∀l,H l=none -> Q (.ref l) (upd H l (.tup ys)))\/(SqT X.K H p ys/\Q (.ref p) H))):=by
 (first|refine⟨?_⟩|skip);intro pins s σ H xs us Q I r h
 obtain⟨p,ys,rfl,h⟩:=h
 obtain⟨u,rfl,rx⟩:=vals1 r
 cases rx
 rcases h with ⟨hq,q⟩|⟨hq,q⟩
 ·obtain⟨its,r',pl,hz⟩:=I.list hq
  have hlen:=r'.length
  refine call_tuple_list pl.isList (fun h' kp=> ?_) (by simp only [ax] <;> lia)
  have I1:Inv X pins σ H {s with heap:=h'}:=I.kept (t':=s.toks) kp
  have I2:Inv X pins σ (upd H h'.objs.size (.tup ys)) {s with heap:=h'.push {cls:=.type "tuple",data:=.seq its.toArray}}:=
   I1.laid (t':=s.toks) (fun b o e=> aj _ e) (au _) (show ke X.prog X.w _ _ _ (.tup ys) from ⟨hz,its,r',ael.new _ _⟩)
  exact⟨.ref h'.objs.size,_,I2,rfl,q _ (I1.hok.fresh (au _))⟩
 ·obtain⟨its,r',pl,hz⟩:=I.tuple hq
  exact call_tuple_same pl ⟨.ref p,H,I,rfl,q⟩
def tyV(K:am)(T:String)(x:V)(H:Hp):Prop:=match x with
 |.str _=> T="str"
 |.int _=> T="int"
 | .ref p=> (T="list"/\ ∃xs,SqL K H p xs)\/(T="tuple"/\ ∃o,K.lookup p=some o/\o.cls=.type "tuple"/\o.dict=none)\/
   (T="dict"/\((∃kvs,H p=some (.dK kvs))\/ ∃kvs,H p=some (.dT kvs)))\/(T="set"/\ ∃S n,H p=some (.set S n))
 |_=> False
theorem a47{x:V}{v:af}(I:Inv X pins σ H s)(r:RelV x v)(ty:tyV X.K T x H):
  s.TypeIs v T/\ ∀a,v=.ref a -> ∃ob,s.heap.get? a=some ob/\ob.dict=none:=by
 cases x with
 |str z=>
  obtain⟨t,rfl⟩:=r
  cases (show T="str" from ty)
  exact⟨typeIs_str s z t,fun _ e=> nomatch e⟩
 |int i=>
  obtain⟨t,rfl⟩:=r
  cases (show T="int" from ty)
  exact⟨ia s i t,fun _ e=> nomatch e⟩
 | ref p=>
  cases r
  rcases ty with ⟨rfl,xs,hq⟩|⟨rfl,o,hk,hc,hd⟩|⟨rfl,hk⟩|⟨rfl,S,n,hk⟩
  ·obtain⟨its,_,pl,_⟩:=I.list hq
   refine⟨pl.isList.typeIs,fun a e=> ?_⟩
   cases e
   obtain⟨o,n,e,c,hd,_⟩:=pl
   exact⟨o,e,hd⟩
  ·refine⟨⟨o,I.kIn p o hk,hc⟩,fun a e=> ?_⟩
   cases e
   exact⟨o,I.kIn _ o hk,hd⟩
  ·have z: ∃o,s.heap.get? p=some o/\o.ExactDict:=by
    rcases hk with ⟨kvs,hk⟩|⟨kvs,hk⟩
    ·obtain⟨_,_,_,_,o,_,_,e,ex,_⟩:=I.hok p _ hk
     exact⟨o,e,ex⟩
    ·obtain⟨_,_,_,_,o,_,_,e,ex,_⟩:=I.hok p _ hk
     exact⟨o,e,ex⟩
   obtain⟨o,e,ex⟩:=z
   refine⟨⟨o,e,ex.1⟩,fun a e2=> ?_⟩
   cases e2
   exact⟨o,e,ex.2.1⟩
  ·obtain⟨o,_,_,_,e,ex,_⟩:=I.hok p _ hk
   refine⟨⟨o,e,ex.1⟩,fun a e2=> ?_⟩
   cases e2
   exact⟨o,e,ex.2.1⟩
 |_=> exact dA ty
noncomputable def tBM(K:am)(T:String)(r:V -> List V -> Hp -> VK -> Prop)(to:TE)(t:TA):TE:=fun σ H Q=> to σ H fun x H1=> tyV K T x H1/\t σ H1 fun xs H2=> r x xs H2 Q
variable{o e:Expr}{es:List Expr}{to:TE}{t:TA}{name:Str}{apos cpos:Pos}{T id:String}{r:V -> List V -> Hp -> VK -> Prop}
theorem a6p(pa:PlainAttrs T)(slot:Slot T name id)(hty:typeOf (.builtin id)=pure (.type "method_descriptor"))(hm:MtR X id r)(ho:PE X o to)(ha:PA X (e::es) t)
  (hbase:attributeBase o name X.env (eval o X.env)=eval o X.env:=by rfl)
  (hfew:((backTo cpos (starEach (e::es) X.env)).all (fun x=> !x.1)&&(backToKw cpos (gM [] X.env)).all (fun x=> x.1.isSome)
   &&decide ((e::es).length+([]:List Keyword).length+(if ([]:List Keyword).isEmpty then 0 else 1) < 30))=true:=by rfl)
  (hline:(apos.endLine==cpos.line)=true:=by rfl) (hs:starEach (e::es) X.env=(false,eval e X.env)::starEach es X.env:=by rfl) (hplain:(backTo cpos (starEach es X.env)).any (·.1)=false:=by rfl):
  PE X (.Call (.Attribute o name apos) (e::es) [] cpos) (tBM X.K T r to t):=by
 (first|refine⟨?_⟩|skip);intro pins s σ H Q I h
 refine wpAny_Call_method_late hbase hfew hline rfl (thn (ho pins s σ H _ I h) fun v s1 ⟨x,H1,I1,r1,ty,q1⟩=> ?_)
 obtain⟨h1,h2⟩:=a47 I1 r1 ty
 refine⟨T,id,pa,slot,hty,h1,h2,?_⟩
 have hA:=ha cpos pins s1 σ H1 _ I1 q1
 rw [hs]at hA⊢
 refine Calls.callWith_builtin (by show (false||(backTo cpos (starEach es X.env)).any (·.1))=false;rw [hplain] <;> rfl) (Calls.evalArgs_plain ?_)
 exact thn hA fun us s2 ⟨vs,H2,I2,r2,q2⟩=> hm pins s2 σ H2 x vs v us Q I2 r1 r2 q2
end
def MtM(X:Cx)(id:String)(r:V -> List V -> Hp -> VK -> Prop):Prop:=
 ∀(pins:List (Addr×Obj)) (s:ak) (σ:St) (H:Hp) (x:V) (xs:List V) (v:af) (us:List af) (Q:VK),Inv X pins σ H s -> RelV x v -> jm xs us -> r x xs H Q ->
  wpAny (model X.prog X.w) X.A (call (.builtin id) (v::us)) (EP X pins σ Q) X.xe s
theorem jm.one: ∀{x:V} {us:List af},jm [x] us -> ∃u,us=[u]/\RelV x u
 |_,_,.cons r .nil=> ⟨_,rfl,r⟩
theorem jm.eraseIdx: ∀{xs:List V} {us:List af} (i:Nat),jm xs us -> jm (xs.eraseIdx i) (us.eraseIdx i)
 |_,_,_,.nil=>.nil
 |_,_,0,.cons _ t=> t
 |_,_,i+1,.cons r t=>.cons r (jm.eraseIdx i t)
theorem al1{α:Type}: ∀(l:List α) (i:Nat),(l.eraseIdx i).length <=l.length
 |[],_=> au _
 |_::_,0=> eE _
 |_::r,i+1=> jY (al1 r i)
section
variable{X:Cx}{pins:List (Addr×Obj)}{σ:St}{H:Hp}{s:ak}{l b:Addr}{xs ys zs:List V}
theorem Inv.lset{its':List af}{f:Array af -> Array af}{t':Nat}(I:Inv X pins σ H s)(hH:H l=some (.lst xs))(e:s.heap.get? l=some {cls:=.type "list",data:=.seq its.toArray n})(hf:f its.toArray=its'.toArray)(hv:jm ys its')(hz:ys.length <=sizeLine):
  Inv X pins σ (upd H l (.lst ys)) {s with heap:=s.heap.update l (eA f),toks:=t'}:=by
 have q:=PySem.IsL.update e f
 rw [hf]at q
 refine I.write (x:=l) (e:=l) (by rw [hH];exact trivial) (.inl rfl) (fun b' u hb hu=> (bO s.heap (eA f) (cW hb)).trans hu) ⟨_,q⟩ ?_
 exact⟨hz,its',_,hv,q⟩
theorem Inv.lnew{t':Nat}(I:Inv X pins σ H s)(hv:jm ys its)(hz:ys.length <=sizeLine):
  Inv X pins σ (upd H s.heap.objs.size (.lst ys)) {s with heap:=s.heap.push {cls:=.type "list",data:=.seq its.toArray},toks:=t'}:=
 I.laid (fun _ _ q=> aj _ q) (au _) ⟨hz,its,0,hv,aA _ rfl⟩
theorem Inv.fresh(I:Inv X pins σ H s):H s.heap.objs.size=none:=I.hok.fresh (au _)
theorem Inv.lstM(I:Inv X pins σ H s)(hH:H l=some (.lst xs)):xs.length <=sizeLine/\ ∃(its:List af) (n:Nat),jm xs its/\xs.length=its.length/\s.heap.get? l=some {cls:=.type "list",data:=.seq its.toArray n}:=by
 obtain⟨z,its,n,r,e⟩:=I.hok l _ hH
 exact⟨z,its,n,r,r.length,e⟩
end
def a11:V -> List V -> Hp -> VK -> Prop:=fun x vs H Q=> ∃l xs y,x=.ref l/\vs=[y]/\H l=some (.lst xs)/\xs.length < sizeLine/\Q .non (upd H l (.lst (xs++ [y])))
theorem aky:MtM X "list.append" a11:=by
 (first|refine⟨?_⟩|skip);intro pins s σ H x vs v us Q I rx rv h
 obtain⟨l,xs,y,rfl,rfl,hH,hz,q⟩:=h
 cases rx
 obtain⟨u,rfl,ru⟩:=rv.one
 obtain⟨z,its,n,r,hl,e⟩:=I.lstM hH
 refine gu F.slot_list_append ⟨_,e,rfl⟩ F.entry_list_append (F.args_list_append_2 _ _) (PySem.list_append l its.toArray n u (by rw [ax];lia)) ⟨e,?_⟩
 refine⟨.non,_,I.lset (its':=its++ [u]) hH e (by simp) (r.append (.cons ru .nil)) ?_,rfl,q⟩
 rw [bv,lE]
 lia
def a65:V -> List V -> Hp -> VK -> Prop:=fun x vs H Q=> ∃l xs i k y,x=.ref l/\vs=[.int i]/\H l=some (.lst xs)/\ -(2^63) <=i/\i < 2^63/\iS i xs.length=some k/\xs[k]?=some y/\Q y (upd H l (.lst (xs.eraseIdx k)))
theorem ax2:MtM X "list.pop" a65:=by
 (first|refine⟨?_⟩|skip);intro pins s σ H x vs v us Q I rx rv h
 obtain⟨l,xs,i,k,y,rfl,rfl,hH,h1,h2,hk,hy,q⟩:=h
 cases rx
 obtain⟨u,rfl,ru⟩:=rv.one
 obtain⟨t,rfl⟩:=ru
 obtain⟨z,its,n,r,hl,e⟩:=I.lstM hH
 obtain⟨w,hw,rw'⟩:=r.get hy
 refine gu F.slot_list_pop ⟨_,e,rfl⟩ F.entry_list_pop (F.args_list_pop_2 _ _)
  (MeetsSeq.list_pop_at l its.toArray n i t k w (fitsIndex_both h1 h2) (by rw [ax,←hl];exact hk) (by rw [←bL];exact hw) (by rw [ax];lia)) ⟨e,?_⟩
 refine⟨y,_,I.lset (its':=its.eraseIdx k) hH e ?_ (r.eraseIdx k) ?_,rw',q⟩
 ·show its.toArray.eraseIdxIfInBounds k=(its.eraseIdx k).toArray
  rw [List.eraseIdxIfInBounds_toArray]
 ·have:=al1 xs k
  lia
def a9q:R2:=fun x y H Q=> ∃l b xs zs,x=.ref l/\y=.ref b/\H l=some (.lst xs)/\H b=some (.lst zs)/\xs.length+zs.length <=sizeLine/\ ∀p,H p=none -> Q (.ref p) (upd H p (.lst (xs++zs)))
theorem a4d:OpR X (binaryOp .Add) a9q:=by
 (first|refine⟨?_⟩|skip);intro pins s σ H x y v u Q I rx ry h
 obtain⟨l,b,xs,zs,rfl,rfl,hH,hB,hz,q⟩:=h
 cases rx
 cases ry
 obtain⟨z,its,n,r,hl,e⟩:=I.lstM hH
 obtain⟨z2,its2,n2,r2,hl2,e2⟩:=I.lstM hB
 refine PySem.P.add_list e e2 ?_ (by rw [ax,ax];lia)
 have ea:its.toArray++its2.toArray=(its++its2).toArray:=by simp
 rw [ea]
 exact⟨.ref _,_,I.lnew (t':=s.toks) (r.append r2) (by rw [bv];lia),rfl,q _ I.fresh⟩
section
variable{κ:Type}[DecidableEq κ]
end
theorem a87{u:HO}(ok:HOk P w H h)(e:Rd H a u):ke P w H h a u:=e.ok ok
theorem a6r{kvs:List (Key×V)}(ok:HOk P w H h)(e:Rd H a (.dK kvs)):kvs.length <=sizeLine/\(a==fM)=false/\ ∃vs,KV kvs vs/\h.DictOf (ae0 P w) a vs:=
 show ke P w H h a (.dK kvs) from a87 ok e
theorem aza{kvs:List (Key×V)}(ok:HOk P w H h)(e:H a=some (.dK kvs)):kvs.length <=sizeLine/\(a==fM)=false/\ ∃vs,KV kvs vs/\h.DictOf (ae0 P w) a vs:=a6r ok (.inl e)
end L2
namespace Att
open PySem PySem.W PySem.Calls PyProof.Rows
theorem ai8{P:Params}: ∀(ns:List Int) (vs:List af),WellAll P h vs (ns.map WData.int) -> ng vs ns:=by
 intro ns
 induction ns with
 |nil=>
  intro vs w
  rw [dQ]at w
  cases w
  exact .nil
 | cons n ns ih=>
  intro vs w
  rw [aP]at w
  cases w with
  |cons a b=>
   cases a
   exact .cons _ _ (ih _ b)
theorem aus{l:OpenLaw}(hn:l.most=some n){P:Params}{args:List WData}{vals:List af}(hpre:l.row.toRowW.claim.pre args=true)(hwl:WellAll P h vals args):
  ∃a vs ns,vals=[aS a]/\args=[WData.list (ns.map WData.int)]/\h.get? a=some {cls:=.type "list",data:=.seq vs.toArray}/\ng vs ns/\ns.length <=n:=by
 have hsh:WShape.hasAll [] args [.list .int]=true:=(pre_splitW hpre).1
 have hc:l.pre.holds [] {args:=args}=true:=(pre_splitW hpre).2
 obtain⟨d,r,rfl,h1,h2⟩:=hasAllW_cons hsh
 obtain rfl:=hasAllW_nil h2
 obtain⟨xs,rfl,h3⟩:=hasW_list h1
 obtain⟨ns,rfl⟩:=items_int h3
 have hlen:ns.length <=n:=by
  unfold OpenLaw.pre at hc
  have h4:(WTm.not (.lt (.lit (.int (n:Int))) (.len (.arg 0)))).holds [] {args:=[.list (ns.map .int)]}=true:=by
   have h4:=(holds_andW hc).1
   rw [hn]at h4
   exact h4
  have h5:=condW_of h4 (w_not (w_lt w_lit (w_len_list (w_arg rfl))))
  rw [ao]at h5
  refine cM fun q=> ?_
  have q':(n:Int) < ((ns.length:Nat):Int):=by lia
  first
   |(rw [decide_eq_true q']at h5;exact absurd h5 (by decide))
   |(simp at h5;lia)
 cases hwl with
 |cons w1 w2=>
  cases w2
  cases w1 with
  |list ho hall=> exact⟨_,_,ns,rfl,rfl,ho,ai8 ns _ hall,hlen⟩
theorem au9(l:OpenLaw)(args:List WData):l.row.toRowW.claim.post args (.bool true) args=true:=
 postW_of (r:=l.row.toRowW) (X:=(true==true))
  (show WShape.has [] (.bool true) .bool=true by first|rfl|decide|simp [WShape.has,WShape.arms,WShape.armsAll])
  (show (WTm.eq .res (.lit (.bool true))).value [] {args:=args,res:=some (.bool true),after:=args}=some (.bool (true==true)) from w_eq_bool (w_res rfl) w_lit) rfl
theorem attach_call{l:OpenLaw}{q:aT}{loose:List Str}{XP:(Str -> Option af) -> Heap -> Prop}{YP:aX -> Heap -> Prop}{d:DefRec}(hn:l.most=some n)(hdf:d.params.defaults=[])(call: ∀(w:aX) (s₀ s₁:ak) (mg mb:Str -> Option af) (fa:Addr) (o:Obj) (pm cd doc:af) (a:Addr) (vs:List af) (ns:List Int),
   Ground q loose [] XP w s₀ mg mb s₁.heap -> YP w s₁.heap ->
   s₁.heap.get? fa=some o -> o.data=.func (docDef d.name d.params d.body d.scope pm cd doc) -> s₁.heap.CodeRec cd d.name -> mg d.name=some (.ref fa) ->
   s₁.heap.get? a=some {cls:=.type "list",data:=.seq vs.toArray} -> ng vs ns -> ns.length <=n -> s₁.gens= #[] ->
   codeAny (model l.prog w) callerA (.call (.ref fa) ⟨[.ref a],[]⟩) (fun r s'=> r=.ok (.ret (.bool true))/\OldK s₁.heap s'.heap/\s'.os=s₁.os/\gr s'.gens) s₁):
  WalkO q loose XP YP l.row.toRowW d [] (fun f vs=> PySem.call f vs):=by
 intro w s₀ s₁ mg mb G Y fa o pm cd doc dV kV ho hd hcd hD hmg hg args vals as hpre hlay hrd hwl hlo
 obtain rfl:dV=.none:=Dflts.none hD hdf
 obtain rfl:kV=.none:=Dflts.noKw hD
 obtain⟨a,vs,ns,rfl,rfl,hobj,hints,hlen⟩:=aus hn hpre hwl
 refine enter_call (dU (call w s₀ s₁ mg mb fa o pm cd doc a vs ns G Y ho (fd_plain hd) hcd hmg hobj hints hlen hg) fun r s' hq=> ?_)
 obtain⟨rfl,h2,h3,h4⟩:=hq
 exact⟨.inl ⟨.bool true,.bool true,[],rfl,fun _=> rfl,.bool true,au9 l _,fun _=> ⟨gF,fun _ hm=> (nomatch hm)⟩⟩,h2,h3,h4⟩
end Att
namespace L2
open PySem PySem.Spec PyProof.Rows
theorem abi: ∀{vs:List af} {ns:List Int},ng vs ns -> jm (ns.map V.int) vs
 |_,_,.nil=>.nil
 |_,_,.cons n t h=>.cons ⟨t,rfl⟩ (abi h)
def axl(H:Hp):Prop:= ∀b,H b=none\/ ∃o xs,H b=some (.frz o (.lst xs))
theorem aw8{mb:Str -> Option af}{CX:CXT}{fa:Addr}{x:Str}{sp:Sp}{s₁:ak}{vs:List af}{ns:List Int}(KX:K.In s₁.heap)(hns:s₁.heap.Ns aV mg)(hb:s₁.heap.Ns builtinsNs mb)(hbb: ∀x:Str,x≠"__name__" -> mb x=bo x)(hlim:s₁.heap.NoLimit)(hg:s₁.gens= #[])(ha:s₁.heap.get? a=some {cls:=.type "list",data:=.seq vs.toArray})(hi:ng vs ns)(hl:ns.length <=sizeLine)(hr:Room k callerA)(F: ∀base:Heap,K.In base -> base.Ns aV mg -> FnOk P w K mg base CX k fa fd [x] sp)(hbind: ∀(s:ak) (u:af),lD s fd ⟨[u],[]⟩ [(x,u)])(hsp: ∀H:Hp,axl H -> SqL K H a (ns.map V.int) -> sp [.ref a] H (fun v _=> v=.bl true) fun _ _ _=> False)(hCX: ∀H e s',CX [] H s₁ (fun _ _ _=> False) e s' -> False):
  codeAny (model P w) callerA (.call (.ref fa) ⟨[.ref a],[]⟩) (fun r s'=> r=.ok (.ret (.bool true))/\OldK s₁.heap s'.heap/\s'.os=s₁.os/\gr s'.gens) s₁:=by
 have rv:=abi hi
 have lenV:=hi.length
 -- from an abstract heap in which nothing but the script may be tracked
 have core: ∀H:Hp,axl H -> SqL K H a (ns.map V.int) -> HOk P w H s₁.heap -> (∀b,H b≠none -> b=a) -> (H a≠none -> K.lookup a=none) ->
   codeAny (model P w) callerA (.call (.ref fa) ⟨[.ref a],[]⟩) (fun r s'=> r=.ok (.ret (.bool true))/\OldK s₁.heap s'.heap/\s'.os=s₁.os/\gr s'.gens) s₁:=by
  intro H hO hS hok hA hK
  have base_of: ∀{b:Addr} {o:Obj},s₁.heap.get? b=some o -> H b=none -> (aex s₁.heap H).get? b=some o:=fun e n=> ay0 e n
  have noA: ∀{b:Addr} {o:Obj} {es:Array kO} {ep:Nat},s₁.heap.get? b=some o -> o.data=.dict es ep -> H b=none:=fun {b o es ep} e d=> by
   cases q:H b with
   |none=> rfl
   |some u=>
    have e':b=a:=hA b (by rw [q];simp)
    subst e'
    rw [ha]at e;cases e
    have d':Data.seq vs.toArray _=Data.dict es ep:=d
    cases d'
  have nsK: ∀{b:Addr} {m:Str -> Option af},s₁.heap.Ns b m -> (aex s₁.heap H).Ns b m:=fun {b m} ⟨o,es,ep,e,d,r⟩=> ⟨o,es,ep,base_of e (noA e d),d,r⟩
  have hKb:K.In (aex s₁.heap H):=fun b o e=> base_of (KX b o e) (by
   cases q:H b with
   |none=> rfl
   |some u=>
    have e':b=a:=hA b (by rw [q];simp)
    subst e'
    rw [hK (by rw [q];simp)]at e;cases e)
  have hM:Mod K mg (aex s₁.heap H):=⟨hKb,nsK hns,⟨mb,nsK hb,hbb⟩,let ⟨mc,h1,h2⟩:=hlim;⟨mc,nsK h1,h2⟩⟩
  have e0:Env0 P w K mg (aex s₁.heap H) callerA [] s₁ H:=⟨rfl,hM,fun b o e=> a21 e,fB (aul _ _),trivial,fun b hb=> absurd (show b∈([]:List Addr) from hb) (by simp),hok,.of_eq hg⟩
  refine dU ((F _ hKb (nsK hns)).run callerA [] s₁ H ⟨[.ref a],[]⟩ [.ref a] [.ref a] _ _ hr e0 (hbind s₁ (.ref a)) (.cons rfl .nil) (hsp H hO hS)) fun r s' h=> ?_
  cases r with
  |error e=> exact (hCX H e s' h).elim
  | ok fl=>
   cases fl with
   |next=> exact dA h
   |brk=> exact dA h
   |cont=> exact dA h
   | ret u=>
    obtain⟨v,H',os,bare,un,hok',r',q⟩:=h
    have q':v=.bl true:=q
    subst q'
    obtain rfl:u=fL true:=r'
    refine⟨rfl,OldK.of_keep fun b o e=> ?_,os,bare⟩
    cases q:H b with
    |none=> exact un.keep b o e q (by intro z;exact absurd (show b∈([]:List Addr) from z) (by simp)) (by simp)
    | some u=>
     rcases hO b with z|⟨ob,xs,z⟩
     ·rw [q]at z;cases z
     ·have z2:=un.frzs b ob _ z
      obtain⟨e1,_⟩:=hok b _ z
      obtain⟨e2,_⟩:=hok' b _ z2
      rw [e]at e1;cases e1
      exact e2
 cases hk:K.lookup a with
 |some o=>
  -- the script is one of the module's own objects
  have e:=KX a o hk
  rw [ha]at e
  cases e
  refine core (fun _=> none) (fun _=>.inl rfl) (.inr ⟨_,vs.toArray,_,hk,rfl,rfl,rfl,by rw [ax,lenV];exact hl,by simpa using rv⟩) (fun b u z=> by have z':(none:Option HO)=some u:=z;cases z') (fun b z=> absurd rfl z) fun z=> absurd rfl z
 | none=>
  refine core (fun b=> if b=a then some (.frz {cls:=.type "list",data:=.seq vs.toArray} (.lst (ns.map V.int))) else none) (fun b=> ?_) (.inl (.inr ⟨{cls:=.type "list",data:=.seq vs.toArray},if_pos rfl⟩)) (fun b u z=> ?_) (fun b z=> ?_) fun _=> hk
  ·by_cases hb:b=a
   ·exact .inr ⟨_,_,if_pos hb⟩
   ·exact .inl (if_neg hb)
  ·by_cases hb:b=a
   ·have z':=(if_pos hb).symm.trans z
    cases z'
    subst hb
    exact⟨ha,by rw [ao];exact hl,vs,_,rv,ha⟩
   ·have z':=(if_neg hb).symm.trans z
    cases z'
  ·by_cases hb:b=a
   ·exact hb
   ·exact absurd (if_neg hb) z
theorem a1x{l:kS}{q:aT}{loose:List Str}{XP:(Str -> Option af) -> Heap -> Prop}{YP:aX -> Heap -> Prop}{d:DefRec}{K:Params -> am}{CX:aX -> CXT}{sp:aX -> Sp}{x:Str}(hn:l.most=some n)(hn2:n <=sizeLine)(hdf:d.params.defaults=[])(hr:Room k callerA)(hY: ∀(w:aX) (h:Heap),YP w h -> (K w.params).In h)(F: ∀(w:aX) (mg:Str -> Option af) (fa:Addr) (h:Heap),(K w.params).In h -> h.Ns aV mg -> mg d.name=some (.ref fa) ->
   ∃fd:eH,(∀(s:ak) (u:af),lD s fd ⟨[u],[]⟩ [(x,u)])/\
    ∀base:Heap,(K w.params).In base -> base.Ns aV mg -> FnOk l.prog w (K w.params) mg base (CX w) k fa fd [x] (sp w)) (hsp: ∀(w:aX) (H:Hp) (a:Addr) (ns:List Int),ns.length <=n -> axl H -> SqL (K w.params) H a (ns.map V.int) -> sp w [.ref a] H (fun v _=> v=.bl true) fun _ _ _=> False) (hCX: ∀(w:aX) (H:Hp) (s:ak) (e:af) (s':ak),CX w [] H s (fun _ _ _=> False) e s' -> False):
  PySem.W.WalkO q loose XP YP l.row.toRowW d [] (fun f vs=> PySem.call f vs):=by
 refine Att.attach_call hn hdf fun w s₀ s₁ mg mb fa o pm cd doc a vs ns G Y ho hd hcd hmg hobj hints hlen hg=> ?_
 have KX:=hY w _ Y
 obtain⟨fd,hb,hF⟩:=F w mg fa _ KX G.T.g hmg
 exact aw8 KX G.T.g G.T.b G.T.builtins G.T.nolimit hg hobj hints (aH hlen hn2) hr hF hb (fun H hO hS=> hsp w H a ns hlen hO hS) fun H e s'=> hCX w H s₁ e s'
noncomputable def yf(s:Stmt):Arguments:=match s with
 |.FunctionDef _ a _ _ _ _ _ _ _ _=> a
 |_=> {posonlyargs:=[],args:=[],vararg:=none,kwonlyargs:=[],kw_defaults:=[],kwarg:=none,defaults:=[]}
noncomputable def ve(s:Stmt):List Stmt:=match s with
 |.FunctionDef _ _ b _ _ _ _ _ _ _=> b
 |_=> []
noncomputable def je(s:Stmt):gn:=match s with
 |.FunctionDef _ _ _ _ _ _ sc _ _ _=> sc
 |_=> {kind:=.function,names:=[],isGenerator:=false,isCoroutine:=false}
abbrev CX0:CXT:=fun _ _ _ _ _ _=> False
structure Fun (K:am) (x qual:Str) (st:Stmt) (f:Addr) (fd:eH):Prop where
 ex: ∃(oc:af) (od:Option Addr) (kV doc pm:af) (an:Option Addr) (cdv ct:af) (osl:Array (Option af)),
  fd=cZ x qual (yf st) (ve st) (je st) .none kV doc pm an cdv ct/\K.lookup f=some ⟨oc,od,.func fd,osl⟩/\fA K cdv qual=true
 kp:df K (.ref f)=true
theorem Fun.binds{x:Str}(F:Fun K x qual st f fd)(h: ∀(kV doc pm:af) (an:Option Addr) (cdv ct:af) (us:List af),us.length=ps.length -> bindArgs (cZ x qual (yf st) (ve st) (je st) .none kV doc pm an cdv ct) ⟨us,[]⟩=pure (ps.zip us)):Binds K fd ps []:=by
 obtain⟨oc,od,kV,doc,pm,an,cdv,ct,osl,rfl,lk,hcd⟩:=F.ex
 exact .all (h kV doc pm an cdv ct)
theorem afb{x:Str}{oc:af}{od an:Option Addr}{kV doc pm cdv ct:af}(l:K.lookup f=some ⟨oc,od,.func (cZ x qual (yf st) (ve st) (je st) .none kV doc pm an cdv ct),osl⟩)(c:fA K cdv qual=true)(k:df K (.ref f)=true):Fun K x qual st f (cZ x qual (yf st) (ve st) (je st) .none kV doc pm an cdv ct):=⟨⟨oc,od,kV,doc,pm,an,cdv,ct,osl,rfl,l,c⟩,k⟩
theorem ats(h:n <=1000):n < sizeLine:=gi h (by decide)
theorem pv(i:Nat){x:Str}(hN:X.N[i]?=some x:=by rfl)(hv:Vis X.env.scope x:=by first|exact dB rfl|exact fD (dB rfl)|exact fD (fD rfl))(hd:(x==("__debug__":Str))=false:=by decide)(hcd:(x==("__classdict__":Str))=false:=by decide):PE X (.Name x pos) (aw9 i):=auk hN hv hd hcd
def kc(H H':Hp):Prop:= ∀b o,H b=some o -> H' b=some o
theorem kc.seq(e:kc H H')(h:SqL K H a xs):SqL K H' a xs:=by
 rcases h with (h|⟨o,h⟩)|h
 ·exact .inl (.inl (e _ _ h))
 ·exact .inl (.inr ⟨o,e _ _ h⟩)
 ·exact .inr h
noncomputable def xx(env:Env):List (Str×fg) -> List (Str×Addr) -> List (Str×Addr)
 |[],cs=> cs
 |(n,k)::r,cs=> xx env r (if k==.free then (match env.cells.lookup n with|some c=> (n,c)::cs|none=> cs) else cs)
theorem am8{env:Env}: ∀{l:List (Str×fg)} {cs:List (Str×Addr)},(∀n c,(n,c)∈cs -> env.cells.lookup n=some c) -> ∀n c,(n,c)∈xx env l cs -> env.cells.lookup n=some c
 |[],cs,h,n,c,m=> h n c m
 | (n',k)::r,cs,h,n,c,m=> by
  unfold xx at m
  refine am8 (l:=r) (fun a b q=> ?_) n c m
  split at q
  ·split at q
   ·rename_i c' hc
    rcases aw.mp q with z|z
    ·cases z;exact hc
    ·exact h a b z
   ·exact h a b q
  ·exact h a b q
theorem akd{env:Env}: ∀{l:List (Str×fg)} {cs:List (Str×Addr)} {p},p∈cs -> p∈xx env l cs
 |[],_,_,h=> h
 | (n,k)::r,cs,p,h=> by
  unfold xx
  refine akd (l:=r) ?_
  split
  ·split
   ·exact az _ h
   ·exact h
  ·exact h
theorem an0{env:Env}: ∀{l:List (Str×fg)} {cs:List (Str×Addr)} {n:Str} {c:Addr},(n,b9)∈l -> env.cells.lookup n=some c -> (n,c)∈xx env l cs
 |[],_,_,_,h,_=> by cases h
 | (n',k)::r,cs,n,c,h,e=> by
  unfold xx
  rcases aw.mp h with z|z
  ·cases z
   refine akd ?_
   simp [e]
  ·exact an0 z e
theorem af1(h: ∀n,(n,b9)∈scope.names -> ∃c,env.cells.lookup n=some c):closureFor scope env=pure (xx env scope.names []):=by
 have all: ∀(l:List (Str×fg)) (cs:List (Str×Addr)),(∀n,(n,b9)∈l -> ∃c,env.cells.lookup n=some c) ->
   (forIn l cs (fun (x:Str×fg) (r:List (Str×Addr))=> (match x with|(name,kind)=> if (kind==b9)=true then (do let a←cellOf env name;pure (eX ((name,a)::r))) else pure (eX r):Sem (ForInStep (List (Str×Addr))))))=(pure (xx env l cs):Sem (List (Str×Addr))):=by
  intro l
  induction l with
  |nil=> intro cs _;rfl
  | cons p r ih=>
   intro cs hl
   obtain⟨n,k⟩:=p
   have hr: ∀n,(n,b9)∈r -> ∃c,env.cells.lookup n=some c:=fun n m=> hl n (az _ m)
   rw [kU]
   unfold xx
   by_cases hk:k=.free
   ·subst hk
    obtain⟨c,hc⟩:=hl n aB
    have e:cellOf env n=pure c:=by unfold cellOf;rw [hc]
    simp only [beq_self_eq_true,if_true,e,hc]
    exact ih _ hr
   ·have hb:(k==b9)=false:=by simpa using hk
    simp only [hb,cc,if_false];exact ih _ hr
 unfold closureFor
 exact (congrArg (fun (z:Sem (List (Str×Addr)))=> z >>=fun r=> pure r) (all scope.names [] h)).trans rfl
def qo(X:Cx)(own caps:List Str)(scope:gn)(C:Addr)(fp:List Addr)(s:ak)(H:Hp):Cx where
 prog:=X.prog
 w:=X.w
 K:=X.K
 mg:=X.mg
 base:=X.base
 A:=X.A
 N:=own++caps
 s₀:=s
 H₀:=H
 env:=compEnvC scope (xx X.env scope.names []) C X.env
 outer:=X.stack
 stack:=X.stack
 ex:=fp
 fn:=fun _=> false
 calm:=X.calm
 pn:=[]
 xe:=fun _ _=> False
def as7(X:Cx)(scope:gn)(y:Str)(j:Nat):Prop:=X.N[j]?=some y/\Vis X.env.scope y/\(X.env.kindOf y==some .local)=false/\((relabel scope X.env).names.lookup y==some .cell||(relabel scope X.env).names.lookup y==some .free)=true
def zc(X:Cx)(scope:gn):List Str -> List Nat -> Prop
 |[],[]=> True
 |y::ys,j::js=> as7 X scope y j/\zc X scope ys js
 |_,_=> False
noncomputable def zu(σ:St)(js:List Nat):St:=js.map fun j=> (σ[j]?).join
theorem zc.at{X:Cx}{scope:gn}{σ:St}: ∀{ys:List Str} {js:List Nat} {i:Nat} {y:Str} {v:V},zc X scope ys js -> ys[i]?=some y -> (zu σ js)[i]?=some (some v) -> ∃j,as7 X scope y j/\σ[j]?=some (some v)
 |[],[],i,y,v,_,h,_=> by simp at h
 | a::ys,j::js,0,y,v,c,h,e=> by
  simp at h;subst h
  refine⟨j,c.1,?_⟩
  simp [zu]at e
  cases q:σ[j]? with
  |none=>
   rw [q]at e
   cases e
  |some o=>
   rw [q]at e
   simp at e
   rw [e]
 |a::ys,j::js,i+1,y,v,c,h,e=> zc.at (i:=i) c.2 (by simpa using h) (by simpa [zu] using e)
 |[],_::_,_,_,_,c,_,_=> c.elim
 |_::_,[],_,_,_,c,_,_=> c.elim
theorem zc.len{X:Cx}{scope:gn}{σ:St}: ∀{ys:List Str} {js:List Nat},zc X scope ys js -> (zu σ js).length=ys.length
 |[],[],_=> rfl
 |a::ys,j::js,c=> by simp only [zu,aP,aQ];exact congrArg (· +1) (zc.len (σ:=σ) c.2)
 |[],_::_,c=> c.elim
 |_::_,[],c=> c.elim
theorem acf{env:Env}: ∀{names:List (Str×fg)} {x:Str},(∀p∈names,p.2≠ .cell) ->
  ((names.map fun (n,k)=> if (k==b9&&env.scope.kind==.function&&env.kindOf n==some .cell) then (n,fT) else (n,k)).lookup x=some .cell\/
    (names.map fun (n,k)=> if (k==b9&&env.scope.kind==.function&&env.kindOf n==some .cell) then (n,fT) else (n,k)).lookup x=some .free) -> (x,b9)∈names
 |[],_,_,h=> by simp at h
 | (n,k)::r,x,hc,h=> by
  have hr: ∀p∈r,p.2≠ .cell:=fun p hp=> hc p (az _ hp)
  have hk:k≠ .cell:=hc (n,k) aB
  have step: ∀(b:Bool),(eD x ((if b=true then (n,fT) else (n,k))::r.map fun (n,k)=> if (k==b9&&env.scope.kind==.function&&env.kindOf n==some .cell) then (n,fT) else (n,k))=some .cell\/
     eD x ((if b=true then (n,fT) else (n,k))::r.map fun (n,k)=> if (k==b9&&env.scope.kind==.function&&env.kindOf n==some .cell) then (n,fT) else (n,k))=some .free) -> (b=true -> k=.free) -> (x,b9)∈(n,k)::r:=by
   intro b q hb
   cases hx:x==n with
   | true=>
    have e:x=n:=by simpa using hx
    subst e
    cases b with
    |true=> rw [hb rfl];exact aB
    |false=>
     simp [List.lookup_cons]at q
     rcases q with q|q
     ·exact absurd q hk
     ·rw [q];exact aB
   |false=>
    refine az _ (acf (env:=env) hr ?_)
    cases b <;> simpa [List.lookup_cons,hx] using q
  exact step _ h fun q=> by simp at q;exact q.1.1
def aj9(X:Cx)(ifs:List Expr)(t:TT):Prop:=
 ∀(pins:List (Addr×Obj)) (s:ak) (σ:St) (H:Hp) (Q:Bool -> Hp -> Prop),Inv X pins σ H s -> t σ H Q ->
  wpAny (model X.prog X.w) X.A (forIn ifs true fun c r=> if r=true then do let ok←isTrue c X.env (eval c X.env);pure (eX ok) else pure (eX r)) (TP X pins σ Q) X.xe s
noncomputable def a91:TT:=fun _ H Q=> Q true H
theorem ayr:aj9 X [] a91:=fun _ _ _ H _ I h=> wpAny_tests_nil ⟨H,I,h⟩
theorem ay3{t:TT}(h:PT X c t):aj9 X [c] t:=fun pins s σ H Q I q=> wpAny_tests_one (h pins s σ H Q I q)
abbrev Wn(P:aT)(w:aX)(A:bj){α:Type}(m:Sem α)(Q:α -> ak -> Prop)(s:ak):Prop:=wpAny (model P w) A m Q (fun _ _=> False) s
abbrev a5w(env:Env)(l:List Expr):Sem Bool:=forIn l true fun c r=> if r=true then do let b←isTrue c env (eval c env);pure (eX b) else pure (eX r)
def a3j (P:aT) (w:aX) (A:bj) (it acc:af) (tg elt:Expr) (l:List Expr) (env:Env) (fin:ak -> Prop) (again:ak -> Prop) (s:ak):Prop:=
 Wn P w A (pyNext it) (fun r a=> match r with
  |none=> fin a
  | some v=> Wn P w A (hZ tg it v) (fun _ b=> Wn P w A (assign tg env v) (fun _ c=> Wn P w A (a5w env l) (fun ok d=>
    if ok=true then Wn P w A (eval elt env) (fun x e=> Wn P w A (call (.builtin "list.append") [acc,x]) (fun _ g=> again g) e) d else again d) c) b) a) s
theorem a2h{R:h8 -> ak -> Prop}{elt:Expr}{l:List Expr}{sc:gn}{it acc:af}(J:Nat -> ak -> Prop)(turn: ∀n s,J n s -> a3j P w A it acc tg elt l env (R (.ok .next)) (fun z=> ∃m,m < n/\J m z) s)(n:Nat)(h:J n s):codeAny (model P w) A (.compLoop (.ListComp elt [⟨tg,iter,l,0⟩] sc pos) 0 it acc env) R s:=by
 refine codeAny_loop rfl J (fun k z hz=> ?_) n h
 have one:=turn k z hz
 show wpAny _ A (Sem.onRaise (compTurn (.ListComp elt [⟨tg,iter,l,0⟩] sc pos) 0 it acc env) fun x=> do kW x env;theTreesLotGoes x) _ _ z
 refine wpAny_noted ?_
 rw [compTurn_list]
 refine ae (fQ (ae (cL one (fun r a ha=> ?_) fun _ _ f=> f.elim)))
 cases r with
 |none=> exact ah ha
 | some v=>
  refine ae (cL ha (fun _ b hb=> ae (cL hb (fun _ c hc=> ae (cL hc (fun ok d hd=> ?_) fun _ _ f=> f.elim)) fun _ _ f=> f.elim)) fun _ _ f=> f.elim)
  cases ok with
  |false=>
   have q: ∃m,m < k/\J m d:=hd
   exact ah ⟨rfl,q⟩
  |true=>
   have q:Wn P w A (eval elt env) (fun x e=> Wn P w A (call (.builtin "list.append") [acc,x]) (fun _ g=> ∃m,m < k/\J m g) e) d:=hd
   exact ae (ae (cL q (fun x e he=> ae (cL he (fun _ g hg=> ah (ah ⟨rfl,hg⟩)) fun _ _ f=> f.elim)) fun _ _ f=> f.elim))
def ayb(g:TG)(tt:TT)(te:TE)(k:Nat)(cap:St)(J:It)(H1:Hp)(Q:VK):Prop:=
 ∀ D,H1 D=none -> ∃W:Nat -> Nat -> List V -> Hp -> Prop,(∃m,W 0 m [] (upd H1 D (.lst [])))/\ ∀i m ys H,H D=some (.lst ys) -> W i m ys H ->
  (J.stop i H/\Q (.ref D) H)\/(J.go i H/\ ∀x H',J.yld i H x H' -> ∀vs:St,vs.length=k -> g x (vs++cap) H' fun σ2 H2=> (∃vs':St,vs'.length=k/\σ2=vs'++cap)/\tt σ2 H2 fun b H3=>
   if b=true then te σ2 H3 fun v H4=> H4 D=some (.lst ys)/\ys.length < sizeLine/\ ∃m',m' < m/\W (i+1) m' (ys++ [v]) (upd H4 D (.lst (ys++ [v]))) else H3 D=some (.lst ys)/\ ∃m',m' < m/\W (i+1) m' ys H3)
def tLc(js:List Nat)(k:Nat)(wi:TI)(g:TG)(tt:TT)(te:TE):TE:=fun σ H Q=> wi σ H fun J H1=> ayb g tt te k (zu σ js) J H1 Q
section
variable{X:Cx}{own caps:List Str}{js:List Nat}{scope:gn}{tg iter elt:Expr}{ifs:List Expr}{wi:TI}{g:TG}{tt:TT}{te:TE}{pos:Pos}
theorem atj{H2:Hp}{s2:ak}{it:Addr}{tn:Nat -> Heap -> Prop}{J:It}{Q:VK}{post:af -> Addr -> h8 -> ak -> Prop}(hcalm:X.calm=true)(hkind:scope.kind=.function)(hcell:(scope.names.any fun p=> p.2==.cell)=false)(hk:(scope.names.all fun p=> !(p.2==.free)||(X.env.kindOf p.1==some .cell||X.env.kindOf p.1==some .free))=true)(hcap:zc X scope caps js)(hg: ∀C fp s H,PG (qo X own caps scope C fp s H) tg g)(hi: ∀C fp s H,aj9 (qo X own caps scope C fp s H) ifs tt)(he: ∀C fp s H,PE (qo X own caps scope C fp s H) elt te)(I2:Inv X pins σ H2 s2)(T:Turn X.prog X.w X.K tg J fp it tn)(st2:tn 0 s2.heap)(f2: ∀b∈fp,ack X pins H2 b)(hw:ayb g tt te own.length (zu σ js) J H2 Q)(hpost: ∀D C s' m H',s'.heap.Ns C m -> s2.heap.objs.size <=C -> ack X pins H' C -> Inv X pins σ H' s' -> Q (.ref D) H' -> post (.ref D) C (.ok .next) s'):
  wpAny (model X.prog X.w) X.A (newList []) (fun acc s₃=> wpAny (model X.prog X.w) X.A (newFunctionEnv scope X.env.globals (xx X.env scope.names []) [] X.env.qual none .none (some X.env)) (fun cenv s₄=>
   codeAny (model X.prog X.w) X.A (.compStart (.ListComp elt [⟨tg,iter,ifs,0⟩] scope pos) 0 (.ref it) acc {cenv with scope:=relabel scope X.env}) (post acc cenv.locals) s₄) E s₃) E s2:=by
 have hcell': ∀y∈scope.names,y.2≠ .cell:=fun y hy e=> by
  have:=(jF.mp hcell) y hy
  simp [e]at this
 have hfr: ∀n,(n,b9)∈scope.names -> X.env.kindOf n=some .cell\/X.env.kindOf n=some .free:=fun n hn=> by
  have:=(aI.mp hk) _ hn
  simpa using this
 refine bD (wpAny_newFunctionEnv hcell' (by intro y hy;simp at hy) (fun h₁ hns₁ hsb₁=> ?_) hkind)
 dsimp only at hns₁ hsb₁⊢
 generalize hHp:s2.heap.push {cls:=.type "list",dict:=none,data:=.seq ([]:List af).toArray}=G2 at hns₁ hsb₁⊢
 have hC:G2.objs.size=s2.heap.objs.size+1:=by rw [←hHp,a9]
 obtain⟨D,hDe⟩: ∃D:Nat,s2.heap.objs.size=D:=⟨_,rfl⟩
 obtain⟨C,hCe⟩: ∃C:Nat,G2.objs.size=C:=⟨_,rfl⟩
 rw [hCe]at hns₁ hsb₁
 rw [hDe,hCe]at hC
 show codeAny _ _ (.compStart _ 0 (.ref it) (.ref s2.heap.objs.size) (compEnvC scope (xx X.env scope.names []) G2.objs.size X.env)) (post (.ref s2.heap.objs.size) G2.objs.size) _
 rw [hDe,hCe]
 have hDC:D≠C:=by lia
 have hDCl:D < C:=by lia
 have old: ∀b o,s2.heap.get? b=some o -> h₁.get? b=some o:=fun b o e=> by
  have hlt:b < D:=hDe▸ay e
  exact hsb₁.extBut b o (aR (mT hlt hDCl)) (aj _ (hHp▸aj _ e))
 have hD2:H2 D=none:=I2.hok.fresh (fB hDe)
 have hC2:H2 C=none:=I2.hok.fresh (by rw [hDe];lia)
 have accD:h₁.get? D=some {cls:=.type "list",data:=.seq ([]:List af).toArray}:=hsb₁.extBut _ _ hDC (aj _ (hHp▸hDe▸aA _ rfl))
 obtain⟨W,⟨m0,w0⟩,turn⟩:=hw D hD2
 -- the block's own state
 have fpn: ∀b∈fp,H2 b=none:=fun b hb=> (f2 b hb).1
 have fplt: ∀b∈fp,b < D:=fun b hb=> by obtain⟨o,e,_⟩:=T.obj _ _ st2 b hb;exact hDe▸ay e
 have clsub: ∀n c,(n,c)∈xx X.env scope.names [] -> X.env.cells.lookup n=some c:=am8 (by intro _ _ z;cases z)
 have cllook: ∀n c,(xx X.env scope.names []).lookup n=some c -> X.env.cells.lookup n=some c:=fun n c e=> clsub n c (dL e)
 have clhas: ∀n,(n,b9)∈scope.names -> ∃c,(xx X.env scope.names []).lookup n=some c/\X.env.cells.lookup n=some c:=fun n hn=> by
  obtain⟨c,e⟩:=I2.ok.has n (hfr n hn)
  have m:=an0 (cs:=[]) hn e
  cases q:(xx X.env scope.names []).lookup n with
  |none=>
   have:=List.lookup_eq_none_iff.mp q _ m
   simp at this
  |some c'=> exact⟨c',rfl,cllook n c' q⟩
 have clt: ∀x c,(xx X.env scope.names []).lookup x=some c -> c < D:=fun x c e=> by
  obtain⟨v,z⟩:=I2.cell x c (cllook x c e)
  exact hDe▸z.lt
 have ok':(qo X own caps scope C fp s2 H2).Ok:=by
  refine⟨I2.ok.mod,hkind,I2.ok.glob,I2.ok.blt,?_,fun x y c e1 e2=> I2.ok.inj x y c (cllook x c e1) (cllook y c e2),fun x hx=> ?_,fun x c z=> (by cases z),I2.ok.hd,I2.ok.frames,.inl rfl,fun b hb=> ⟨?_,fun x c e=> ?_⟩,I2.bs,aH I2.ok.bsz I2.sz,fun b o e hb=> ?_,fun b hb hs=> ?_,I2.stack,I2.stkFree⟩
  ·show s2.heap.objs.size <=C
   rw [hDe];lia
  ·have hx':(relabel scope X.env).names.lookup x=some .cell\/(relabel scope X.env).names.lookup x=some .free:=hx
   obtain⟨c,e,_⟩:=clhas x (acf hcell' hx')
   exact⟨c,e⟩
  ·exact aR (mT (fplt b hb) hDCl)
  ·exact (f2 b hb).2.2.2.2.1 x c (cllook x c e)
  ·rcases (f2 b hb).2.2.2.1 with z|z
   ·exact I2.ok.noex b o e z
   ·exact absurd (aU (ay (I2.ok.bs b o e).1) z) (cO _)
  ·rcases aw.mp (I2.stkSub b hs) with z|z
   ·exact (f2 b hb).2.1 z
   ·exact (f2 b hb).2.2.1 z
 have I4:Inv (qo X own caps scope C fp s2 H2) [] (aC own.length none++zu σ js) (upd H2 D (.lst [])) {s2 with heap:=h₁,toks:=s2.toks+([]:List (Str×af)).length}:=by
  refine⟨ok',rfl,I2.bare,Un.laid old (fB hDe) hD2,⟨_,hns₁,fun i x v e1 e2 e3=> ?_⟩,fun x c e=> ?_,?_,fun x c e=> ?_,fun p hp=> absurd (show p∈([]:List (Addr×Obj)) from hp) (by simp),?_,?_⟩
  ·have e1:(own++caps)[i]?=some x:=e1
   by_cases hio:i < own.length
   ·rw [bq (by simpa using hio),eQ]at e2
    split at e2 <;> cases e2
   ·have hle:own.length <=i:=cM hio
    rw [cv hle]at e1
    rw [cv (by simpa using hle)]at e2
    obtain⟨j,c,e⟩:=zc.at (σ:=σ) hcap e1 (by simpa using e2)
    obtain⟨c1,c2,c3,c4⟩:=c
    obtain⟨m,hn,hl⟩:=I2.loc
    obtain⟨u,r,lk⟩:=hl j x v c1 e c2
    refine⟨u,r,.inr ⟨?_,?_⟩⟩
    ·have c4':(relabel scope X.env).names.lookup x=some .cell\/(relabel scope X.env).names.lookup x=some .free:=by simpa using c4
     exact c4'
    ·have c4':(relabel scope X.env).names.lookup x=some .cell\/(relabel scope X.env).names.lookup x=some .free:=by simpa using c4
     obtain⟨c',q1,q2⟩:=clhas x (acf hcell' c4')
     rcases lk with ⟨k1,_⟩|⟨_,c'',k2,k3⟩
     ·rw [k1]at c3;simp at c3
     ·rw [q2]at k2;cases k2
      obtain⟨oc,hoc,hod⟩:=k3
      exact⟨c',q1,oc,old _ _ hoc,hod⟩
  ·obtain⟨v,oc,hoc,hod⟩:=I2.cell x c (cllook x c e)
   exact⟨v,oc,old _ _ hoc,hod⟩
  ·show upd H2 D (.lst []) C=none
   rw [ko (cW hDC)];exact hC2
  ·rw [ko (aR (clt x c e))];exact I2.freeC x c (cllook x c e)
  ·exact I2.hok.laid old (fB hDe) ⟨cy _,[],0,.nil,accD⟩
  ·show (aC own.length none++zu σ js).length=(own++caps).length
   rw [bv,bv,fz,hcap.len]
 have stat: ∀{H':Hp},(∀b∈fp,H' b=none) -> ∀b∈fp,ack (qo X own caps scope C fp s2 H2) [] H' b:=fun hn b hb=>
  ⟨hn b hb,(ok'.exf b hb).1,ok'.exfs b hb,.inl hb,(ok'.exf b hb).2,fun p hp=> absurd (show p∈([]:List (Addr×Obj)) from hp) (by simp)⟩
 have loop: ∀s₃:ak,s₃={s2 with heap:=h₁,toks:=s2.toks+([]:List (Str×af)).length} ->
   codeAny (model X.prog X.w) X.A (.compLoop (.ListComp elt [⟨tg,iter,ifs,0⟩] scope pos) 0 (.ref it) (.ref D) (compEnvC scope (xx X.env scope.names []) C X.env)) (post (.ref D) C) s₃:=by
  rintro s₃ rfl
  refine a2h (fun n s'=> ∃i vs ys H',vs.length=own.length/\Inv (qo X own caps scope C fp s2 H2) [] (vs++zu σ js) H' s'/\tn i s'.heap/\(∀b∈fp,H' b=none)/\H' D=some (.lst ys)/\W i n ys H') ?_ m0
   ⟨0,aC own.length none,[],upd H2 D (.lst []),by simp,I4,T.keep _ _ _ st2 fun b _ o e=> old b o e,fun b hb=> by rw [ko (aR (fplt b hb))];exact fpn b hb,yw,w0⟩
  rintro n s3 ⟨i,vs,ys,H3,hvs,I3,st3,fr3,hD3,w3⟩
  rcases turn i n ys H3 hD3 w3 with ⟨stop,qn⟩|⟨go,step⟩
  ·refine thn (T.done (qo X own caps scope C fp s2 H2) rfl rfl rfl hcalm i [] s3 _ H3 (fun _ _=> False) I3 (stat fr3) st3 stop) fun r s5 ⟨hr,I5⟩=> ?_
   subst hr
   obtain⟨m5,hn5,_⟩:=id I5.loc
   refine hpost D C s5 m5 H3 hn5 (by rw [hDe];lia) (I2.fpOk (by rw [hDe];lia) I5.free) ?_ qn
   exact I2.call' (ch:=fp) I5.os I5.base I5.hok I5.bare fun b hb=> ⟨(f2 b hb).2.2.2.1,(f2 b hb).2.1,(f2 b hb).2.2.2.2⟩
  ·refine thn (T.item (qo X own caps scope C fp s2 H2) rfl rfl rfl hcalm i [] s3 _ H3 (fun _ _=> False) I3 (stat fr3) st3 go) fun r s4 ⟨u,hr,h4⟩=> ?_
   subst hr
   refine thn h4 fun _ s5 ⟨x,H5,I5,r5,y5,st5,fr5⟩=> ?_
   have I5':=I5.pinned (stat fr5) (T.obj _ _ st5);refine thn (hg C fp s2 H2 _ s5 _ H5 x u _ I5' r5 (step x H5 y5 vs hvs)) fun _ s6 ⟨σ6,H6,I6,⟨vs6,hvs6,e6⟩,q6⟩=> ?_
   subst e6
   refine thn (hi C fp s2 H2 _ s6 _ H6 _ I6 q6) fun b s7 ⟨H7,I7,q7⟩=> ?_
   have again: ∀{H8:Hp} {s8:ak} {ys':List V},Inv (qo X own caps scope C fp s2 H2) ([]++afl fp s5.heap) (vs6++zu σ js) H8 s8 -> H8 D=some (.lst ys') -> (∃m',m' < n/\W (i+1) m' ys' H8) ->
     ∃m,m < n/\ ∃i vs ys H',vs.length=own.length/\Inv (qo X own caps scope C fp s2 H2) [] (vs++zu σ js) H' s8/\tn i s8.heap/\(∀b∈fp,H' b=none)/\H' D=some (.lst ys)/\W i m ys H':=fun {H8 s8 ys'} I8 hD8 w8=> by
    obtain⟨m',hm,w8⟩:=w8
    refine⟨m',hm,i+1,vs6,ys',H8,hvs6,I8.unpinned,T.keep _ _ _ st5 fun b hb o e=> (I8.pin (b,o) (bQ _ (bQ _ (aby hb e)))).1,fun b hb=> ?_,hD8,w8⟩
    obtain⟨o,e,d⟩:=T.obj _ _ st5 b hb
    exact (I8.pin (b,o) (bQ _ (bQ _ (aby hb e)))).2.1
   cases b with
   |false=> exact again I7 q7.1 q7.2
   |true=>
    refine thn (he C fp s2 H2 _ s7 _ H7 _ I7 q7) fun y s8 ⟨v,H8,I8,r8,hD8,hz8,q8⟩=> ?_
    refine thn (aky (X:=qo X own caps scope C fp s2 H2) _ s8 _ H8 (.ref D) [v] (.ref D) [y] (fun z H9=> H9=upd H8 D (.lst (ys++ [v]))) I8 rfl (.cons r8 .nil) ⟨D,ys,v,rfl,rfl,hD8,hz8,rfl⟩) fun _ s9 ⟨z,H9,I9,_,e9⟩=> ?_
    subst e9
    exact again I9 yw q8
 refine codeAny_compStart_list (loop _ rfl) (T.self _ 0 _ _ _ (T.keep _ _ _ st2 fun b _ o e=> old b o e) (loop _ rfl))
theorem a7l(hcalm:X.calm=true)(hkind:scope.kind=.function)(hnames:(scope.names.all fun p=> !(p.2==.local)||(scope.names.lookup p.1==some .local))=true)(hcell:(scope.names.any fun p=> p.2==.cell)=false)
  (hk:(scope.names.all fun p=> !(p.2==.free)||(X.env.kindOf p.1==some .cell||X.env.kindOf p.1==some .free))=true)
  (hcap:zc X scope caps js) (hi:PI X tg iter wi) (hg: ∀C fp s H,PG (qo X own caps scope C fp s H) tg g) (ht: ∀C fp s H,aj9 (qo X own caps scope C fp s H) ifs tt) (he: ∀C fp s H,PE (qo X own caps scope C fp s H) elt te)
  (hs: ∀x,d9 iter X.env x=pure x:=by intro _;rfl):PE X (.ListComp elt [⟨tg,iter,ifs,0⟩] scope pos) (tLc js own.length wi g tt te):=by
 refine⟨?_⟩
 intro pins s σ H Q I h
 have hfr: ∀n,(n,b9)∈scope.names -> X.env.kindOf n=some .cell\/X.env.kindOf n=some .free:=fun n hn=> by
  have:=(aI.mp hk) _ hn
  simpa using this
 have hn': ∀x∈scope.names,x.2=.local -> scope.names.lookup x.1=some .local:=fun x hx e=> by
  have:=(aI.mp hnames) _ hx
  simpa [e] using this
 rw [eval_ListComp]
 refine jZ (use:=none) rfl hs (af1 fun n hn=> I.ok.has n (hfr n hn)) hkind hn' (thn (hi pins s σ H _ I h) fun v s1 h1=> thn h1 fun itv s2 h2=> ?_)
 obtain⟨it,fp,tn,J,H2,e,I2,T,st2,f2,hw⟩:=h2
 subst e
 refine atj (iter:=iter) (pos:=pos) (post:=fun acc C=> compPost (model X.prog X.w) X.A X.xe none (EP X pins σ Q) acc C) hcalm hkind hcell hk hcap hg ht he I2 T st2 f2 hw ?_
 intro D C s' m H' hn _ f hI hq
 exact⟨m,hn,fun h' hs'=> ⟨.ref D,H',hI.turned (t':=s'.toks) (fun b o hb e=> (hs'.2 b hb).trans e) f.1 f.2.1 f.2.2.2.1 f.2.2.2.2.1 f.2.2.2.2.2,rfl,hq⟩⟩
theorem avq{y:Str}{py:Pos}{spos:Pos}(hsw:gf (.ListComp elt [⟨tg,iter,ifs,0⟩] scope pos) (some (.Name y py)) spos.line X.env=pure true)(hN:X.N.Nodup)(hy:X.N[i]?=some y)(hyl:X.env.scope.names.lookup y=some .local)(hcalm:X.calm=true)(hkind:scope.kind=.function)(hnames:(scope.names.all fun p=> !(p.2==.local)||(scope.names.lookup p.1==some .local))=true)(hcell:(scope.names.any fun p=> p.2==.cell)=false)(hk:(scope.names.all fun p=> !(p.2==.free)||(X.env.kindOf p.1==some .cell||X.env.kindOf p.1==some .free))=true)(hcap:zc X scope caps js)(hi:PI X tg iter wi)(hg: ∀C fp s H,PG (qo X own caps scope C fp s H) tg g)(ht: ∀C fp s H,aj9 (qo X own caps scope C fp s H) ifs tt)(he: ∀C fp s H,PE (qo X own caps scope C fp s H) elt te)(hs: ∀x,d9 iter X.env x=pure x:=by intro _;rfl):PS X (.Assign [.Name y py] (.ListComp elt [⟨tg,iter,ifs,0⟩] scope pos) spos) (fun D σ H=> tLc js own.length wi g tt te σ H fun v H'=> D.nx (σ.set i (some v)) H'):=by
 refine⟨?_⟩
 intro pins s σ H D I h
 have hfr: ∀n,(n,b9)∈scope.names -> X.env.kindOf n=some .cell\/X.env.kindOf n=some .free:=fun n hn=> by
  have:=(aI.mp hk) _ hn
  simpa using this
 have hn': ∀x∈scope.names,x.2=.local -> scope.names.lookup x.1=some .local:=fun x hx e=> by
  have:=(aI.mp hnames) _ hx
  simpa [e] using this
 rw [exec_Assign_Name_used _ _ _ _ hsw];refine ae (fQ (ae ?_))
 show wpAny _ _ (do let _←comprehension (.ListComp elt [⟨tg,iter,ifs,0⟩] scope pos) scope X.env _ (newList []) false (eval iter X.env) (some (assign (.Name y py) X.env))) _ _ s
 refine ae (cL (jZ (use:=some (assign (.Name y py) X.env)) (Q:=fun _ s'=> SP X pins D .next s') rfl hs (af1 fun n hn=> I.ok.has n (hfr n hn)) hkind hn'
  (thn (hi pins s σ H _ I h) fun v s1 h1=> thn h1 fun itv s2 h2=> ?_)) (fun _ s' hq=> ah (ah hq)) fun _ _ e=> e)
 obtain⟨it,fp,tn,J,H2,e,I2,T,st2,f2,hw⟩:=h2
 subst e
 refine atj (iter:=iter) (pos:=pos) (post:=fun acc C=> compPost (model X.prog X.w) X.A X.xe (some (assign (.Name y py) X.env)) (fun _ s'=> SP X pins D .next s') acc C) hcalm hkind hcell hk hcap hg ht he I2 T st2 f2 hw ?_
 intro Da C s' m H' hn hCs f I' hq
 show wpAny _ _ (assign (.Name y py) X.env (.ref Da)) _ _ _
 refine wpAny_assign_Name (akp (v:=.ref Da) (u:=.ref Da) I' hN hy (.inl hyl) rfl (fun s6 I6 hs6=> ?_) (.inr hyl))
 obtain⟨a,hsb,ha⟩:=hs6
 have haC:a≠C:=by
  rcases ha with z|z
  ·rw [z];exact cW f.2.1
  ·exact f.2.2.2.2.1 y a z
 exact⟨m,hn.sameBut hsb (cW haC),fun h' hs'=> ⟨σ.set i (some (.ref Da)),H',I6.turned (t':=s6.toks) (fun b o hb e=> (hs'.2 b hb).trans e) f.1 f.2.1 f.2.2.2.1 f.2.2.2.2.1 f.2.2.2.2.2,hq⟩⟩
end
def Has(K:am)(mg:Str -> Option af)(x:Str)(st:Stmt)(ps:List Str):Prop:=
 ∃(f:Addr) (fd:eH),Fun K x x st f fd/\mg x=some (.ref f)/\Binds K fd ps []
theorem als:bo "len"=some (.builtin "len"):=by decide+kernel
theorem a7z:bo "min"=some (.builtin "min"):=by decide+kernel
theorem a8j:bo "max"=some (.builtin "max"):=by decide+kernel
theorem a6j:bo "repr"=some (.builtin "repr"):=by decide+kernel
theorem avr:bo "sorted"=some (.builtin "sorted"):=by decide+kernel
theorem ac6:bo "isinstance"=some (.builtin "isinstance"):=by decide+kernel
theorem a77:bo "all"=some (.builtin "all"):=by decide+kernel
theorem a7s:bo "sum"=some (.builtin "sum"):=by decide+kernel
theorem aua:bo "list"=some (.type "list"):=by decide+kernel
theorem agi:bo "tuple"=some (.type "tuple"):=by decide+kernel
theorem azg:bo "set"=some (.type "set"):=by decide+kernel
theorem a7m:bo "str"=some (.type "str"):=by decide+kernel
theorem az7:bo "int"=some (.type "int"):=by decide+kernel
theorem a5q:bo "bool"=some (.type "bool"):=by decide+kernel
noncomputable def tyD:ag -> String
 |.none=> "NoneType"
 |.bool _=> "bool"
 |.int _=> "int"
 |.str _=> "str"
 |.list _=> "list"
 |.tuple _=> "tuple"
 |.dict _=> "dict"
noncomputable def kj(d:ag)(n:String):Bool:=match d with
 |.none=> n=="NoneType"
 |.bool _=> n=="bool"||n=="int"
 |.int _=> n=="int"
 |.str _=> n=="str"
 |.list _=> n=="list"
 |.tuple _=> n=="tuple"
 |.dict _=> n=="dict"
theorem atg(K:am)(d:ag)(n:String)(hn:n="str"\/n="int"\/n="bool"\/n="tuple"\/n="list"):cH K (.type (tyD d)) (.type n)=some (kj d n):=by
 rcases hn with rfl|rfl|rfl|rfl|rfl <;> cases d <;> rfl
noncomputable def anz:Const -> Option V
 |.str x=> some (.str x)
 |.int i=> some (.int i)
 |.bool b=> some (.bl b)
 |.none=> some .non
 |_=> none
def aet:List Expr -> Option (List V)
 |[]=> some []
 | .Constant c _ _::r=> match anz c with
  |some v=> match aet r with
   |some vs=> some (v::vs)
   |none=> none
  |none=> none
 |_=> none
theorem awo{c:Const}:starEach (.Constant c j pos::es) env=(false,eval (.Constant c j pos) env)::starEach es env:=by rfl
noncomputable def tVs(vs:List V):TA:=fun _ H Q=> Q vs H
theorem a1o{c:Const}(h:anz c=some v):PE X (.Constant c j pos) (tC v):=by
 cases c <;> simp [anz]at h <;> subst h
 all_goals first
  |exact atf
  |exact at8
  |exact az4
  |exact ast
theorem akg: ∀{es:List Expr} {vs:List V},aet es=some vs -> PA X es (tVs vs)
 |[],vs,h=> by
  cases h
  exact ai1
 | e ::es,vs,h=> by
  cases e with
  | Constant c j pos=>
   simp only [aet]at h
   cases h1:anz c with
   |none=>
    rw [h1]at h
    cases h
   | some v=>
    rw [h1]at h
    cases h2:aet es with
    |none=> rw [h2]at h;cases h
    |some ws=>
     rw [h2]at h
     cases h
     have p:=agd (a1o (X:=X) (pos:=pos) (j:=j) h1) (akg h2) awo
     exact p
  |_=> simp [aet]at h
structure New (H:Hp) (p:Addr) (o:HO) (H':Hp):Prop where
 no:H p=none
 eq:H'=upd H p o
theorem New.at(n:New H p o H'):H' p=some o:=by rw [n.eq,yw]
theorem New.keep{b:Addr}{u:HO}(n:New H p o H')(e:H b=some u):H' b=some u:=by rw [n.eq,ko (xw e n.no)];exact e
structure Chg (H:Hp) (p:Addr) (o:HO) (H':Hp):Prop where
 eq:H'=upd H p o
theorem Chg.at(n:Chg H p o H'):H' p=some o:=by rw [n.eq,yw]
theorem Chg.keep{b:Addr}{u:HO}(n:Chg H p o H')(h:b≠p)(e:H b=some u):H' b=some u:=by rw [n.eq,ko h];exact e
theorem PE.weak{t t':TE}(h:PE X e t)(k: ∀σ H Q,t' σ H Q -> t σ H Q):PE X e t':=.mk <|fun pins s σ H Q I q=> h pins s σ H Q I (k σ H Q q)
theorem OpR.weak{f:af -> af -> Sem af}{r r':R2}(h:OpR X f r)(k: ∀x y H Q,r' x y H Q -> r x y H Q):OpR X f r':=fun pins s σ H x y v u Q I rx ry q=> h pins s σ H x y v u Q I rx ry (k x y H Q q)
theorem vb.weak{f:af}{r r':List V -> Hp -> VK -> Prop}(h:vb X f r)(k: ∀xs H Q,r' xs H Q -> r xs H Q):vb X f r':=fun pins s σ H xs us Q I rv q=> h pins s σ H xs us Q I rv (k xs H Q q)
theorem MtM.weak{id:String}{r r':V -> List V -> Hp -> VK -> Prop}(h:MtM X id r)(k: ∀x xs H Q,r' x xs H Q -> r x xs H Q):MtM X id r':=fun pins s σ H x xs v us Q I rx rv q=> h pins s σ H x xs v us Q I rx rv (k x xs H Q q)
theorem SlR.weak{r r':V -> Option Int -> Option Int -> Hp -> VK -> Prop}(h:SlR X r)(k: ∀x lo hi H Q,r' x lo hi H Q -> r x lo hi H Q):SlR X r':=by
 intro pins s σ H x v vl vu lo hi sl Q I rx hs pl pu q
 exact h pins s σ H x v vl vu lo hi sl Q I rx hs pl pu (k x lo hi H Q q)
theorem aj7.weak{t t':arf}(h:aj7 X t)(k: ∀o i v H Q,t' o i v H Q -> t o i v H Q):aj7 X t':=fun pins s σ H o i v ov iv u Q I ro ri rv q=> h pins s σ H o i v ov iv u Q I ro ri rv (k o i v H Q q)
noncomputable def a7p(t:TA):TE:=fun σ H Q=> t σ H fun xs H1=> xs.length <=sizeLine/\ ∀p H',New H1 p (.tup xs) H' -> Q (.ref p) H'
noncomputable def a8c(t:TA):TE:=fun σ H Q=> t σ H fun xs H1=> xs.length <=sizeLine/\ ∀p H',New H1 p (.lst xs) H' -> Q (.ref p) H'
theorem a14{t:TA}{x1 pos}(h:PA X es t):PE X (.Tuple es x1 pos) (a7p t):=by
 refine⟨?_⟩
 intro pins s σ H Q I hq
 refine wpAny_Tuple_spliced (thn (h pos pins s σ H _ I hq) fun us s1 ⟨xs,H1,I1,r,z,q⟩=> ⟨by rw [←r.length];exact z,?_⟩)
 have hf:H1 s1.heap.objs.size=none:=I1.hok.fresh (au _)
 refine⟨.ref s1.heap.objs.size,upd H1 s1.heap.objs.size (.tup xs),I1.laid (t':=s1.toks) (fun b u e=> aj _ e) (au _) ?_,rfl,q _ _ ⟨hf,rfl⟩⟩
 exact⟨z,us,r,⟨_,aA _ rfl⟩⟩
theorem a0i{t:TA}{pos}(h:PA X es t):PE X (.List es pos) (a8c t):=by
 refine⟨?_⟩
 intro pins s σ H Q I hq
 refine wpAny_List_spliced (thn (h pos pins s σ H _ I hq) fun us s1 ⟨xs,H1,I1,r,z,q⟩=> ⟨by rw [←r.length];exact z,?_⟩)
 have hf:H1 s1.heap.objs.size=none:=I1.hok.fresh (au _)
 refine⟨.ref s1.heap.objs.size,upd H1 s1.heap.objs.size (.lst xs),I1.laid (t':=s1.toks) (fun b u e=> aj _ e) (au _) ?_,rfl,q _ _ ⟨hf,rfl⟩⟩
 exact⟨z,us,0,r,aA _ rfl⟩
def a83(K:am):V -> Option Int -> Option Int -> Hp -> VK -> Prop:=fun x lo hi H Q=> ∃a xs,x=.ref a/\SqL K H a xs/\ ∀p H',New H p (.lst (zm xs lo hi)) H' -> Q (.ref p) H'
theorem ayk:SlR X (a83 X.K):=a1b.weak fun x lo hi H Q ⟨a,xs,e,h,q⟩=> ⟨a,xs,e,h,fun p hp=> q p _ ⟨hp,rfl⟩⟩
def a73(K:am):V -> Option Int -> Option Int -> Hp -> VK -> Prop:=fun x lo hi H Q=> ∃a xs,x=.ref a/\SqT K H a xs/\ ¬(HT.sIx xs.length 0 lo=0/\HT.sIx xs.length xs.length hi=xs.length)/\ ∀p H',New H p (.tup (zm xs lo hi)) H' -> Q (.ref p) H'
theorem a1q:SlR X (a73 X.K):=aux.weak fun x lo hi H Q ⟨a,xs,e,h,n,q⟩=> ⟨a,xs,e,h,n,fun p hp=> q p _ ⟨hp,rfl⟩⟩
noncomputable def a8e:R2:=fun x y H Q=> ∃l b xs zs,x=.ref l/\y=.ref b/\H l=some (.lst xs)/\H b=some (.lst zs)/\xs.length+zs.length <=sizeLine/\ ∀p H',New H p (.lst (xs++zs)) H' -> Q (.ref p) H'
theorem a23:OpR X (binaryOp .Add) a8e:=a4d.weak fun x y H Q ⟨l,b,xs,zs,e1,e2,h1,h2,n,q⟩=> ⟨l,b,xs,zs,e1,e2,h1,h2,n,fun p hp=> q p _ ⟨hp,rfl⟩⟩
theorem arp:vb X (.type "list") (fun xs H Q=> ∃p ys,xs=[.ref p]/\(SqL X.K H p ys\/SqT X.K H p ys)/\ ∀l H',New H l (.lst ys) H' -> Q (.ref l) H'):=
 alz.weak fun xs H Q ⟨p,ys,e,h,q⟩=> ⟨p,ys,e,h,fun l hl=> q l _ ⟨hl,rfl⟩⟩
theorem ad9:vb X (.type "tuple") (fun xs H Q=> ∃p ys,xs=[.ref p]/\((SqL X.K H p ys/\ ∀l H',New H l (.tup ys) H' -> Q (.ref l) H')\/(SqT X.K H p ys/\Q (.ref p) H))):=
 alf.weak fun xs H Q ⟨p,ys,e,h⟩=> ⟨p,ys,e,h.imp (fun⟨a,q⟩=> ⟨a,fun l hl=> q l _ ⟨hl,rfl⟩⟩) id⟩
def ay6:V -> List V -> Hp -> VK -> Prop:=fun x vs H Q=> ∃l xs y,x=.ref l/\vs=[y]/\H l=some (.lst xs)/\xs.length < sizeLine/\ ∀H',Chg H l (.lst (xs++ [y])) H' -> Q .non H'
theorem ar9:MtM X "list.append" ay6:=aky.weak fun x vs H Q ⟨l,xs,y,e1,e2,h,n,q⟩=> ⟨l,xs,y,e1,e2,h,n,q _ ⟨rfl⟩⟩
def a19:V -> List V -> Hp -> VK -> Prop:=fun x vs H Q=> ∃l xs i k y,x=.ref l/\vs=[.int i]/\H l=some (.lst xs)/\ -(2^63) <=i/\i < 2^63/\iS i xs.length=some k/\xs[k]?=some y/\ ∀H',Chg H l (.lst (xs.eraseIdx k)) H' -> Q y H'
theorem av8:MtM X "list.pop" a19:=ax2.weak fun x vs H Q ⟨l,xs,i,k,y,e1,e2,h,n1,n2,n3,n4,q⟩=> ⟨l,xs,i,k,y,e1,e2,h,n1,n2,n3,n4,q _ ⟨rfl⟩⟩
def a4b:V -> V -> V -> Hp -> (Hp -> Prop) -> Prop:=fun o i v H Q=> ∃p xs k j,o=.ref p/\i=.int k/\H p=some (.lst xs)/\ixN xs.length k=some j/\ ∀H',Chg H p (.lst (xs.set j v)) H' -> Q H'
theorem ava:aj7 X a4b:=ayh.weak fun o i v H Q ⟨p,xs,k,j,e1,e2,h,n,q⟩=> ⟨p,xs,k,j,e1,e2,h,n,q _ ⟨rfl⟩⟩
end L2
namespace ST
open PySem PySem.SetTable
noncomputable def adv(t:cR):Nat -> Probe -> Probe
 |0,p=> p
 |n+1,p=> adv t n (t.advance p)
theorem a1v(t:cR)(a b:Nat)(p:Probe):adv t (a+b) p=adv t b (adv t a p):=by
 induction a generalizing p with
 |zero=> rw [Nat.zero_add];rfl
 |succ a ih=> rw [show a+1+b=(a+b)+1 by lia];exact ih _
theorem avy(t:cR)(n:Nat)(p:Probe):adv t (n+1) p=t.advance (adv t n p):=by rw [a1v];rfl
theorem adv_dummy(t:cR): ∀(n:Nat) (p:Probe),(adv t n p).dummy=p.dummy
 |0,_=> rfl
 |n+1,p=> by
  rw [avy,←adv_dummy t n p]
  unfold advance
  split <;> rfl
abbrev Ris(l:List Nat):Prop:=l.Pairwise (· < ·)
theorem ris_get{l:List Nat}(h:Ris l){a b:Nat}(ha:a < b)(hb:b < l.length):l[a]'(by lia) < l[b]:=(f7.mp h) a b (by lia) hb ha
theorem aho(xs:Array Nat)(j:Nat)(h:Ris xs.toList): ∀(fuel lo hi:Nat),lo <=hi -> hi <=xs.size -> hi - lo <=fuel -> (∀i,i < lo -> xs.getD i j < j) -> (∀i,hi <=i -> i < xs.size -> j <=xs.getD i j) ->
  below.go xs j fuel lo hi <=xs.size/\(∀i,i < below.go xs j fuel lo hi -> xs.getD i j < j)/\(∀i,below.go xs j fuel lo hi <=i -> i < xs.size -> j <=xs.getD i j)
 |0,lo,hi,h1,h2,h3,h4,h5=> by
  unfold below.go
  exact⟨by lia,h4,fun i a b=> h5 i (by lia) b⟩
 | fuel+1,lo,hi,h1,h2,h3,h4,h5=> by
  unfold below.go
  split
  ·rename_i hlt
   have mono: ∀a b,a <=b -> b < xs.size -> xs.getD a j <=xs.getD b j:=by
    intro a b hab hb
    rcases Nat.lt_or_eq_of_le hab with z|z
    ·have:=ris_get h z (by rw [aK];exact hb)
     simp only [gy,show a < xs.size by lia,hb,dif_pos]
     simpa using gc this
    ·subst z;exact au _
   dsimp only
   split
   ·rename_i c
    refine aho xs j h fuel _ _ (by lia) h2 (by lia) (fun i hi'=> ?_) h5
    exact gi (mono i ((lo+hi)/2) (by lia) (by lia)) c
   ·rename_i c
    refine aho xs j h fuel _ _ (by lia) (by lia) (by lia) h4 (fun i a b=> ?_)
    exact aH (by lia) (mono ((lo+hi)/2) i a b)
  ·exact⟨by lia,h4,fun i a b=> h5 i (by lia) b⟩
theorem below_spec(xs:Array Nat)(j:Nat)(h:Ris xs.toList):below xs j <=xs.size/\(∀i,i < below xs j -> xs.getD i j < j)/\(∀i,below xs j <=i -> i < xs.size -> j <=xs.getD i j):=
 aho xs j h xs.size 0 xs.size (cy _) (au _) (by lia) (fun i hi=> by lia) (fun i a b=> by lia)
theorem below_ix{xs:Array Nat}(h:Ris xs.toList)(e:xs[i]?=some j):below xs j=i:=by
 obtain⟨b1,b2,b3⟩:=below_spec xs j h
 have hi:i < xs.size:=(bP.mp e).1
 have ei:xs.getD i j=j:=by simp only [gy,hi,dif_pos];exact (bP.mp e).2
 have h1: ¬i < below xs j:=fun z=> by have:=b2 i z;lia
 have h2: ¬below xs j < i:=fun z=> by
  have hb:below xs j < xs.size:=by lia
  have:=b3 _ (au _) hb
  have q:=ris_get h z (by rw [aK];exact hi)
  have e2:xs.getD (below xs j) j=xs[below xs j]:=by simp only [gy,hb,dif_pos];rfl
  have e3:xs[i]=j:=(bP.mp e).2
  simp only [lX]at q
  lia
 lia
theorem has_nil(j:Nat):has #[] j=false:=by unfold has;simp
end ST
namespace L2
open PySem PySem.Spec PyProof.Rows
def ak4(w:aX)(k:Nat)(t:cR):Prop:=t.led= !(w.params.followText "set-order")/\(k≠0 -> t.plain=false\/ST.Ris t.place.toList)
def xq(P:aT)(w:aX)(h:Heap)(a:Addr)(S:Str -> Bool)(n:Nat):Prop:=
 ∃o es ep t,h.get? a=some o/\o.ExactSet/\o.data=.set es ep t/\(iB (bY P w) es.toList/\(∀k,S k=true ↔ ∃e∈es.toList,(bY P w).is k e.2=true)
  /\es.size < bG/\t.fits es.size=true/\es.size=n)/\ak4 w es.size t
theorem xq.congr{S S':Str -> Bool}{n':Nat}(z:xq P w h a S n)(hS: ∀k,S' k=S k)(hn:n'=n):xq P w h a S' n':=by
 subst hn
 obtain⟨o,es,ep,t,e,ex,d,⟨q1,q2,q3⟩,q4⟩:=z
 exact⟨o,es,ep,t,e,ex,d,⟨q1,fun k=> by rw [hS k];exact q2 k,q3⟩,q4⟩
theorem aoz(t:cR)(es:Array (Int×af))(h:Int)(x:af):(layNew t es h x).2.1.led=t.led:=by
 have si: ∀(u:cR) (m:Nat),(u.orStandIn m).led=u.led:=fun u m=> by
  unfold SetTable.orStandIn
  by_cases c:u.fits m=true
  ·rw [if_pos c]
  ·rw [if_neg c];rfl
 unfold layNew
 cases t.freeSlot h with
 |none=> rfl
 |some q=>
  obtain⟨sl,wd⟩:=q
  exact (si _ _).trans rfl
theorem an6{t':cR}{hs:Array Int}{wd:Nat}{od:Array Nat}(e:t.relaid hs wd=some (t',od)):t'.led=t.led/\t'.plain=t.plain:=by
 unfold SetTable.relaid SetTable.laid at e
 cases c:SetTable.layClean (iT wd - 1) hs with
 |none=> rw [c]at e;cases e
 |some ow=>
  rw [c]at e
  simp only [mD,fO,Option.pure_def,ee,mq]at e
  obtain⟨rfl,_⟩:=e
  exact⟨rfl,rfl⟩
theorem akx(t:cR)(es:Array (Int×af))(wd:Nat):(relayAll t es wd).2.1.led=t.led/\(t.plain=false -> (relayAll t es wd).2.1.plain=false):=by
 unfold relayAll
 cases c:t.relaid (es.map (·.1)) wd with
 |none=> exact⟨rfl,fun _=> rfl⟩
 |some q=>
  obtain⟨t',od⟩:=q
  obtain⟨k1,k2⟩:=an6 c
  dsimp only
  split
  ·exact⟨k1,fun z=> k2.trans z⟩
  ·exact⟨rfl,fun _=> rfl⟩
theorem asp{o:Obj}{es:Array (Int×af)}(ho:h.get? a=some o)(hex:o.ExactSet)(hd:o.data=.set es ep t){es':Array (Int×af)}{t':cR}{S':Str -> Bool}(q:iB (bY prog w) es'.toList/\(∀k,S' k=true ↔ ∃e∈es'.toList,(bY prog w).is k e.2=true)/\es'.size < bG/\t'.fits es'.size=true)(tx:ak4 w es'.size t'):
  (h.update a (ib es' t')).get? a=some {o with data:=.set es' (ep+1) t'}/\xq prog w (h.update a (ib es' t')) a S' es'.size:=by
 obtain⟨g,_⟩:=SetOf_store (knd:=bY prog w) ho hex hd q.1 q.2.1 q.2.2.1 q.2.2.2
 exact⟨g,_,es',ep+1,t',g,hex,rfl,⟨q.1,q.2.1,q.2.2.1,q.2.2.2,rfl⟩,tx⟩
theorem azl{g:Bool -> Sem Unit}(hg: ∀(b:Bool) (s1:ak) (Q':Unit -> ak -> Prop),Q' () s1 -> wpAny (model prog w) A (g b) Q' E s1){o:Obj}{es:Array (Int×af)}(ho:s.heap.get? a=some o)(hex:o.ExactSet)(hd:o.data=.set es ep t){es1:Array (Int×af)}{t2:cR}{S':Str -> Bool}(q:iB (bY prog w) es1.toList/\(∀k,S' k=true ↔ ∃e∈es1.toList,(bY prog w).is k e.2=true)/\es1.size < bG/\t2.fits es1.size=true)(tx:t2.led= !(w.params.followText "set-order")/\t2.plain=false){wasDummy:Bool}{R:Option Bool -> ak -> Prop}(h: ∀h',bJ a s.heap h' -> xq prog w h' a S' es1.size -> R (some true) {s with heap:=h'}):
  wpAny (model prog w) A (do
   storeSet a es1 t2
   if (!wasDummy&&t2.tooFull)=true then do g (relayAll t2 es1 (ck es1.size)).2.2;storeSet a (relayAll t2 es1 (ck es1.size)).1 (relayAll t2 es1 (ck es1.size)).2.1;pure (some true) else pure (some true)) R E s:=by
 obtain⟨q1,q2,q3,q4⟩:=q
 refine ae (gG ho hd ?_ (ef q3))
 obtain⟨g1,x1⟩:=asp (w:=w) (prog:=prog) ho hex hd ⟨q1,q2,q3,q4⟩ ⟨tx.1,fun _=>.inl tx.2⟩
 have b1:=b8 s.heap a (ib es1 t2)
 split
 ·have p:=relayAll_perm t2 es1 (ck es1.size)
  have f:=relayAll_fits t2 es1 (ck es1.size)
  have tt:=akx t2 es1 (ck es1.size)
  revert p f tt
  generalize relayAll t2 es1 (ck es1.size)=Rl
  obtain⟨es2,t3,gv⟩:=Rl
  intro p f tt
  dsimp only at p f tt⊢
  have z:es2.size=es1.size:=by
   have:=p.length_eq
   rwa [aK,aK]at this
  have b2:es2.size < bG:=z▸q3
  refine ae (hg _ _ _ (ae (gG g1 rfl ?_ (ef b2))))
  obtain⟨_,x2⟩:=asp (w:=w) (prog:=prog) (S':=S') g1 hex rfl ⟨q1.perm p,fun k=> (q2 k).trans ⟨fun⟨e,m,y⟩=> ⟨e,p.mem_iff.mpr m,y⟩,fun⟨e,m,y⟩=> ⟨e,p.mem_iff.mp m,y⟩⟩,b2,f⟩ ⟨tt.1.trans tx.1,fun _=>.inl (tt.2 tx.2)⟩
  exact ah (h _ (b1.trans (b8 _ a _)) (z▸x2))
 ·exact ah (h _ b1 x1)
theorem a9g{S:Str -> Bool}{k:Str}{tk:Tok}{Q:Bool -> ak -> Prop}(hS:xq prog w s.heap a S n)(hroom:n+1 < bG)(h: ∀h',bJ a s.heap h' -> xq prog w h' a (fun y=> S y||decide (y=k)) (if S k then n else n+1) -> Q (!S k) {s with heap:=h'}):
  wpAny (model prog w) A (kA a (.str k tk) ((bY prog w).hash k)) Q E s:=by
 have hkey:(bY prog w).is k (.str k tk)=true:=by show gR k (.str k tk)=true;simp [gR]
 obtain⟨o,es,ep,t,ho,hex,hd,⟨hel,hmem,hb,hf,hn⟩,tx⟩:=hS
 have hgw: ∀(b:Bool) {s1:ak} {Q':Unit -> ak -> Prop},Q' () s1 -> wpAny (model prog w) A (match b with|true=> rule "set.scan.the-table-gave-way"|false=> pure ()) Q' E s1:=by
  intro b s1 Q' z
  cases b
  ·exact ah z
  ·exact cB z
 unfold kA setAddHashedIn;refine bC (ae (dE ho hd hf ?_))
 dsimp only
 rw [byScan_of (knd:=bY prog w) rfl hb hel,if_pos rfl]
 unfold setAddByScan
 refine ae (ae (cB (ae (wpAny_setScan_of hkey ho hd hf hel ?_))))
 cases hr:List.findIdx? (fun e=> (bY prog w).is k e.2) es.toList with
 | some j=>
  obtain⟨hj,hpj,_⟩:=gN.mp hr;have sk:S k=true:=(hmem k).mpr ⟨es.toList[j],cz hj,hpj⟩
  dsimp only
  refine ah (ah ?_);have z:=h s.heap (jH a s.heap) ⟨o,es,ep,t,ho,hex,hd,⟨hel,fun y=> by
   rw [kX,decide_eq_true_eq,←hmem y]
   exact⟨fun c=> c.elim id (fun e=> e▸sk),.inl⟩,hb,hf,by rw [sk];exact hn⟩,tx⟩
  rw [sk]at z
  exact z
 | none=>
  dsimp only
  have sk:S k=false:=by
   cases c:S k with
   |false=> rfl
   |true=>
    obtain⟨e,m,y⟩:=(hmem k).mp c
    exact Bool.noConfusion (y.symm.trans (jO.mp hr e m))
  have p:=layNew_perm t es ((bY prog w).hash k) (.str k tk)
  have f:=layNew_fits t es ((bY prog w).hash k) (.str k tk)
  have ld:=aoz t es ((bY prog w).hash k) (.str k tk)
  revert p f ld
  generalize layNew t es ((bY prog w).hash k) (.str k tk)=L
  obtain⟨es1,t1,wd,gv⟩:=L
  intro p f ld
  dsimp only at p f ld⊢
  rw [jI]at p
  have z1:es1.size=n+1:=by
   have:=p.length_eq
   rw [aK,bv,aK,hn]at this
   exact this
  have b1:es1.size < bG:=z1▸hroom
  have q:iB (bY prog w) es1.toList/\(∀y,(fun y=> S y||decide (y=k)) y=true ↔ ∃e∈es1.toList,(bY prog w).is y e.2=true)/\es1.size < bG:=
   ⟨(hel.push hkey rfl).perm p,fun y=> mem_push_iff hkey hmem p y,b1⟩
  have fin: ∀h',bJ a s.heap h' -> xq prog w h' a (fun y=> S y||decide (y=k)) es1.size -> Q true {s with heap:=h'}:=fun h' u v=> by
   have:=h h' u
   rw [sk,if_neg aq,←z1]at this
   exact this v
  refine ae (hgw _ ?_)
  split
  ·refine ae ?_
   rw [lF 8 rfl]
   refine ah (azl (fun b s1 Q' z=> ?_) ho hex hd ⟨q.1,q.2.1,q.2.2,?_⟩ ⟨?_,?_⟩ fun h' u v=> ?_)
   ·cases b
    ·exact ah z
    ·exact cB z
   ·exact SetTable.fits_plain_off f
   ·exact ld.trans tx.1
   ·rfl
   ·dsimp only;exact ah (fin h' u v)
  ·rename_i hpl
   refine ae (ah ?_);simp only [↓reduceIte]
   refine azl (fun b s1 Q' z=> ?_) ho hex hd ⟨q.1,q.2.1,q.2.2,f⟩ ⟨ld.trans tx.1,?_⟩ fun h' u v=> ?_
   ·cases b
    ·exact ah z
    ·exact cB z
   ·simpa using hpl
   ·dsimp only;exact ah (fin h' u v)
theorem ba6(a:af){Q1:af -> ak -> Prop}(h:Q1 (.ref s.heap.objs.size) {s with heap:=s.heap.push {cls:=.type "set",dict:=none,data:=.set #[] 0 (.fresh 0 0 (!(w.params.followText "set-order")))}}):
  codeAny (model prog w) A (.call (.builtin "set.__new__") ⟨[.type "set",a],[]⟩) (wants Q1 E) s:=by
 refine kY (show wpAny _ A.in1 (do fP "set.__new__" ⟨[.type "set",a],[]⟩;again (.builtin "set.__new__" ⟨[.type "set",a],[]⟩)) _ _ s from ?_)
 refine ae (nn (PySem.F.newCall_set_1 a) (ah ⟨fU lG _,dC PySem.F.entry_set_new ?_⟩))
 rw [dg lG _];unfold cJ.«set.__new__» Builtin.Frozenset.newClass
 have sb:=PySem.sub_set_self
 obtain⟨hp,g,d,tk,os⟩:=s;dsimp only
 wp_walk
 refine kB (ah ?_);dsimp only;simp only [newObj]
 exact ae (wpAny_alloc (ah (ah h)))
noncomputable def k6{α:Type}[DecidableEq α](l:List α)(x:α):List α:=if x∈l then l else l++ [x]
def jk{α:Type}[DecidableEq α](xs:List α):List α:=xs.foldl k6 []
theorem ad5{α:Type}[DecidableEq α](xs:List α)(x:α):jk (xs++ [x])=k6 (jk xs) x:=by unfold jk;rw [List.foldl_append];rfl
theorem zn{α:Type}[DecidableEq α]{l:List α}{x y:α}:y∈k6 l x ↔ y∈l\/y=x:=by
 unfold k6
 split
 ·constructor
  ·exact dB
  ·rintro (h|rfl)
   ·exact h
   ·assumption
 ·simp
theorem ai7{α:Type}[DecidableEq α]{l:List α}{x:α}(h:l.Nodup):(k6 l x).Nodup:=by
 unfold k6
 split
 ·exact h
 ·rename_i hx
  rw [List.nodup_append]
  refine⟨h,by simp,fun a ha b hb=> ?_⟩
  rw [bd.mp hb]
  rintro rfl
  exact hx ha
theorem aa7{α:Type}[DecidableEq α](xs:List α):(jk xs).Nodup/\(∀y,y∈jk xs ↔ y∈xs)/\(jk xs).length <=xs.length:=by
 have all: ∀(ys acc:List α),acc.Nodup -> (ys.foldl k6 acc).Nodup/\(∀y,y∈ys.foldl k6 acc ↔ y∈acc\/y∈ys)/\(ys.foldl k6 acc).length <=acc.length+ys.length:=by
  intro ys
  induction ys with
  |nil=> intro acc h;exact⟨h,by simp,au _⟩
  | cons z r ih=>
   intro acc h
   obtain⟨h1,h2,h3⟩:=ih (k6 acc z) (ai7 h)
   refine⟨h1,fun y=> ?_,?_⟩
   ·rw [dY,h2,zn,aw]
    constructor
    ·rintro ((a|a)|a)
     ·exact .inl a
     ·exact .inr (.inl a)
     ·exact .inr (.inr a)
    ·rintro (a|a|a)
     ·exact .inl (.inl a)
     ·exact .inl (.inr a)
     ·exact .inr a
   ·rw [dY,aQ]
    have:(k6 acc z).length <=acc.length+1:=by unfold k6;split <;> simp
    lia
 have h:=all xs [] List.nodup_nil
 refine⟨h.1,fun y=> ?_,?_⟩
 ·show y∈xs.foldl k6 [] ↔ _
  simpa using h.2.1 y
 ·show (xs.foldl k6 []).length <=_
  simpa using h.2.2
theorem aic{α:Type}[DecidableEq α]: ∀{xs:List α},xs.Nodup -> jk xs=xs:=by
 intro xs h
 have all: ∀(ys acc:List α),(acc++ys).Nodup -> ys.foldl k6 acc=acc++ys:=by
  intro ys
  induction ys with
  |nil=> intro acc _;simp
  | cons z r ih=>
   intro acc hn
   have hz:z∉acc:=fun m=> by
    rw [List.nodup_append]at hn
    exact hn.2.2 z m z aB rfl
   rw [dY,show k6 acc z=acc++ [z] from by unfold k6;rw [if_neg hz],ih _ (by rw [cQ];exact hn),cQ]
   rfl
 have:=all xs [] (by simpa using h)
 simpa [jk] using this
theorem awt{α:Type}[DecidableEq α]{xs:List α}(h:(jk xs).length=xs.length):xs.Nodup:=by
 have all: ∀(ys acc:List α),(ys.foldl k6 acc).length=acc.length+ys.length -> acc.Nodup -> (acc++ys).Nodup:=by
  intro ys
  induction ys with
  |nil=> intro acc _ h;simpa using h
  | cons z r ih=>
   intro acc hl hn
   have le: ∀(zs a:List α),(zs.foldl k6 a).length <=a.length+zs.length:=by
    intro zs
    induction zs with
    |nil=> intro a;exact au _
    |cons y t ih2=>
     intro a
     rw [dY,aQ];have h1:=ih2 (k6 a y)
     have h2:(k6 a y).length <=a.length+1:=by unfold k6;split <;> simp
     lia
   rw [dY,aQ]at hl
   have hz:z∉acc:=fun m=> by
    have h1:=le r (k6 acc z)
    rw [show k6 acc z=acc from by unfold k6;rw [if_pos m]]at h1 hl
    lia
   have e:k6 acc z=acc++ [z]:=by unfold k6;rw [if_neg hz]
   rw [e]at hl
   have:=ih (acc++ [z]) (by rw [hl,bv];simp;lia) (by rw [←e];exact ai7 hn)
   rw [cQ]at this;exact this
 have:=all xs [] (by simpa [jk] using h) List.nodup_nil
 simpa using this
section
variable{prog:aT}{w:aX}{A:bj}{R:h8 -> ak -> Prop}{I:Addr}{wr fp:List Addr}{G:Array iz -> Array iz -> Prop}{n:Nat}{P:Nat -> af -> Prop}{St:Nat -> ak -> Prop}
theorem axr(W:WalksS prog w A.in1 I fp wr G n P St)(p:Addr)(hp:p∉fp)(xs:List Str)(hn:xs.length=n)(hval: ∀i v,P i v -> ∃x t,xs[i]?=some x/\v=.str x t)(hb:n+1 < bG):
  ∀(j i:Nat) (s:ak),i+j=n -> St i s -> xq prog w s.heap p (fun y=> decide (y∈jk (xs.take i))) (jk (xs.take i)).length ->
   (∀s',nv (p::wr) G s s' -> xq prog w s'.heap p (fun y=> decide (y∈jk xs)) (jk xs).length -> R (.ok (.ret .none)) s') ->
   codeAny (model prog w) A (.builtin "set.update.loop" ⟨[.ref p,.ref I],[]⟩) R s:=by
 have hpw:p∉wr:=fun z=> hp (W.sub _ z)
 have up: ∀b∈wr,b∈p::wr:=fun b z=> az _ z
 have stays: ∀{s s':ak} {S:Str -> Bool} {m:Nat},nv wr G s s' -> xq prog w s.heap p S m -> xq prog w s'.heap p S m:=fun mv z=> by
  obtain⟨o,es,ep,t,ho,q⟩:=z
  exact⟨o,es,ep,t,mv.heap p _ hpw ho,q⟩
 intro j
 induction j with
 |zero=>
  intro i s hij hst hS hR
  have ei:i=n:=by lia
  subst ei
  refine dC c8 ?_
  rw [dg b7 _]
  refine (show wpAny _ A.in1 (pyNext (.ref I)>>=_) _ _ s from ae (W.done s _ _ hst fun s' mv=> ?_))
  refine ah (hR s' (mv.mono up) ?_)
  have:=stays mv hS
  rw [dO (fB hn)]at this
  exact this
 | succ j ih=>
  intro i s hij hst hS hR
  refine dC c8 ?_
  rw [dg b7 _]
  refine (show wpAny _ A.in1 (pyNext (.ref I)>>=_) _ _ s from ae (W.item i s _ _ (by lia) hst fun v s' hP hst' mv=> ?_))
  obtain⟨x,t,hx,rfl⟩:=hval i v hP
  show wpAny _ A.in1 (holding [gb x t] (setAdd p (.str x t))>>=_) _ _ s'
  refine ae (bC ?_);unfold setAdd
  refine bC (ae ((strKind prog w).pyHash (k:=x) (by show gR x (.str x t)=true;simp [gR]) ?_))
  have few:(jk (xs.take i)).length <=i:=aH (aa7 _).2.2 (by rw [bX];lia)
  refine a9g (s:={s' with toks:=s'.toks+1}) (show xq prog w s'.heap p _ _ from stays mv hS) (by lia) fun h' sb hS2=> ?_
  have et:xs.take (i+1)=xs.take i++ [x]:=by rw [jJ,hx];rfl
  have hS3:xq prog w h' p (fun y=> decide (y∈jk (xs.take (i+1)))) (jk (xs.take (i+1))).length:=by
   refine xq.congr hS2 (fun y=> ?_) ?_
   ·rw [et,ad5]
    by_cases h1:y∈jk (xs.take i)
    ·simp [h1,zn]
    ·by_cases h2:y=x
     ·simp [h1,h2,zn]
     ·simp [h1,h2,zn]
   ·rw [et,ad5]
    by_cases h1:x∈jk (xs.take i)
    ·rw [show k6 (jk (xs.take i)) x=jk (xs.take i) from by unfold k6;rw [if_pos h1]];simp [h1]
    ·rw [show k6 (jk (xs.take i)) x=jk (xs.take i)++ [x] from by unfold k6;rw [if_neg h1]];simp [h1]
  refine ah ⟨fU b7 _,ih (i+1) _ (by lia) (W.frame _ s' _ _ hst' (eE _) fun b hbm o e=> ?_) hS3 fun s'' mv2 hS''=> ?_⟩
  ·rw [sb.2 b (fun z:b=p=> hp (by rw [←z];exact hbm))];exact e
  ·refine hR s'' (Moved.trans W.gtrans ((mv.mono up).then_heap (eE _) fun b o hbm e=> ?_) mv2) hS''
   rw [sb.2 b (fun z:b=p=> hbm (by rw [z];exact aB))];exact e
end
set_option maxHeartbeats 8000000 in
theorem ake{oc:Obj}(hh:A.handled=none)(hT:T="list"\/T="tuple")(ho:s.heap.get? a=some oc)(hc:oc.cls=.type T){its:Array af}(hd:oc.data=.seq its k){SF:Heap -> Prop}(run: ∀(A':bj) (I:Addr) (fp wr:List Addr) (P:Nat -> af -> Prop) (St:Nat -> ak -> Prop) (s0:ak) (R:h8 -> ak -> Prop),WalksS prog w A'.in1 I fp wr (fun x y=> y=x) its.size P St -> (∀i v,P i v -> its[i]?=some v) -> s.heap.objs.size∉fp -> St 0 s0 ->
   (∃led:Bool,led= !(w.params.followText "set-order")/\s0.heap.get? s.heap.objs.size=some {cls:=.type "set",dict:=none,data:=.set #[] 0 (.fresh 0 0 led)}) -> (∀s',nv (s.heap.objs.size::wr) (fun x y=> y=x) s0 s' -> SF s'.heap -> R (.ok (.ret .none)) s') -> codeAny (model prog w) A' (.builtin "set.update.loop" ⟨[.ref s.heap.objs.size,.ref I],[]⟩) R s0) (h: ∀(h':Heap) (tk:Nat),SF h' -> (∀b o,b < s.heap.objs.size -> s.heap.get? b=some o -> h'.get? b=some o) -> Q (.ref s.heap.objs.size) {s with heap:=h',toks:=tk}):
  wpAny (model prog w) A (call (.type "set") [.ref a]) Q E s:=by
 obtain⟨cm,mrest,m0⟩:=eK.mro
 have m1:=eK.made
 have m2:=eK.sub
 refine jM (kY (show wpAny _ _ (callAny (.type "set") _) _ _ _ from ah ⟨iU _ (by decide+kernel),dC F.entry_type_call ?_⟩))
 rw [Around.under_plain (weight_type_call_type "set" [.ref a] []) rfl]
 have m3:=eK.notType
 have m4:=eK.canCreate
 have m5:=PySem.F.typeCall_set_1 (.ref a)
 repeat any_goals (first|assumption|wp_step)
 refine dU (ba6 (.ref a) (E:=E) (Q1:=fun ob s1=> ∃led:Bool,led= !(w.params.followText "set-order")/\ob=.ref s.heap.objs.size/\s1={s with heap:=s.heap.push {cls:=.type "set",dict:=none,data:=.set #[] 0 (.fresh 0 0 led)}}) ⟨_,rfl,rfl,rfl⟩) fun r s1 hr=> ?_
 cases r with
 |error e=> exact hr
 | ok fl=>
  cases fl with
  | ret ob=>
   obtain⟨led,hled,rfl,rfl⟩:=hr
   have g0:(s.heap.push {cls:=.type "set",dict:=none,data:=.set #[] 0 (.fresh 0 0 led)}).get? s.heap.objs.size=some {cls:=.type "set",dict:=none,data:=.set #[] 0 (.fresh 0 0 led)}:=aA _ rfl
   have g1:Shared.TypeIs {s with heap:=s.heap.push {cls:=.type "set",dict:=none,data:=.set #[] 0 (.fresh 0 0 led)}} (.ref s.heap.objs.size) "set":=⟨_,g0,rfl⟩
   have m6:=eK.init.lookup
   have m7:=eK.init.bind (.ref s.heap.objs.size)
   repeat any_goals (first|assumption|wp_step)
   refine dU (ic (R:=wants (fun r s2=> r=.none/\ ∃h' tk,s2={s with heap:=h',toks:=tk}/\SF h'/\
     (∀b o,b < s.heap.objs.size -> s.heap.get? b=some o -> h'.get? b=some o)) E) eK.init.plain F.entry_set_init (check_set_init_1 g1 ?_)) fun r2 s2 hr2=> ?_
   ·have halt:a < s.heap.objs.size:=ay ho
    obtain⟨o1,o2,o3,o4⟩:=oc
    simp only at hc hd
    subst hc hd
    have g2:(s.heap.push {cls:=.type "set",dict:=none,data:=.set #[] 0 (.fresh 0 0 led)}).get? a=some {cls:=.type T,dict:=o2,data:=.seq its k,slots:=o4}:=aj _ ho
    have h3:A.in1.in1.in1.handled=none:=by simp [hh]
    have neI:a≠(s.heap.push {cls:=.type "set",dict:=none,data:=.set #[] 0 (.fresh 0 0 led)}).objs.size:=by
     rw [a9]
     exact aR (cD halt)
    have nf:s.heap.objs.size∉ [(s.heap.push {cls:=.type "set",dict:=none,data:=.set #[] 0 (.fresh 0 0 led)}).objs.size,a]:=by
     rw [a9]
     simp only [aw,bc,or_false,not_or]
     exact⟨aR (eL _),dR halt⟩
    have fin: ∀(o:Obj) (s':ak),nv [s.heap.objs.size,(s.heap.push {cls:=.type "set",dict:=none,data:=.set #[] 0 (.fresh 0 0 led)}).objs.size] (fun x y=> y=x) {s with heap:=(s.heap.push {cls:=.type "set",dict:=none,data:=.set #[] 0 (.fresh 0 0 led)}).push o} s' ->
      SF s'.heap ->
      ∃h' tk,s'={s with heap:=h',toks:=tk}/\SF h'/\(∀b o,b < s.heap.objs.size -> s.heap.get? b=some o -> h'.get? b=some o):=by
     intro o s' mv hS'
     obtain⟨h',ge,dr,tk',oz⟩:=s'
     have e1:ge=s.gens:=mv.gens
     have e2:dr=s.drawn:=mv.drawn
     have e3:oz=s.os:=mv.os
     subst e1 e2 e3
     refine⟨h',tk',rfl,hS',fun b o' hb' e=> mv.heap b o' ?_ (aj _ (aj _ e))⟩
     rw [a9]
     simp only [aw,bc,or_false,not_or]
     exact⟨aR hb',aR (cD hb')⟩
    rcases hT with rfl|rfl
    ·have n1:=PySem.F.sub_list_set
     have n2:=PySem.F.sub_list_frozenset
     have n3:(bE "list"==bE "dict")=false:=by decide
     have l1:(s.heap.push {cls:=.type "set",dict:=none,data:=.set #[] 0 (.fresh 0 0 led)}).IsList a its:=⟨_,g2,rfl,k,rfl⟩
     unfold cJ.«set.__init__» noKeywords iC;generalize hPI:pyIter=PI
     wp_walk
     subst hPI
     refine eg l1 (ae (lH ?_))
     refine run _ _ _ _ _ _ _ _ ((Walks.list h3 _ a neI its).toS) (fun i v hv=> hv) nf ⟨⟨_,aA _ rfl,rfl,rfl⟩,l1.push _⟩ ⟨led,hled,aj _ g0⟩ ?_
     intro s' mv hS'
     obtain⟨h',tk,rfl,z1,z2⟩:=fin _ s' mv hS'
     exact ah (show wpAny _ _ (ret aZ) _ _ _ from ah ⟨rfl,h',tk,rfl,z1,z2⟩)
    ·have n1:=PySem.F.sub_tuple_set
     have n2:=PySem.F.sub_tuple_frozenset
     have n3:(bE "tuple"==bE "dict")=false:=by decide
     have l1:(s.heap.push {cls:=.type "set",dict:=none,data:=.set #[] 0 (.fresh 0 0 led)}).IsTuple a its:=⟨_,g2,rfl,k,rfl⟩
     unfold cJ.«set.__init__» noKeywords iC;generalize hPI:pyIter=PI
     wp_walk
     subst hPI
     refine iV l1 (ae (lH ?_))
     refine run _ _ _ _ _ _ _ _ ((Walks.tuple h3 _ a neI its).toS) (fun i v hv=> hv) nf ⟨⟨_,aA _ rfl,rfl,rfl⟩,?_⟩ ⟨led,hled,aj _ g0⟩ ?_
     ·exact⟨_,aj _ g2,rfl,k,rfl⟩
     intro s' mv hS'
     obtain⟨h',tk,rfl,z1,z2⟩:=fin _ s' mv hS'
     exact ah (show wpAny _ _ (ret aZ) _ _ _ from ah ⟨rfl,h',tk,rfl,z1,z2⟩)
   ·cases r2 with
    |error e=> exact hr2
    | ok f2=>
     cases f2 with
     |ret u=>
      obtain⟨rfl,h',tk,rfl,z1,z2⟩:=hr2
      repeat any_goals (first|assumption|wp_step)
      exact h h' tk z1 z2
     |next=> exact hr2.elim
     |brk=> exact hr2.elim
     |cont=> exact hr2.elim
  |next=> exact hr.elim
  |brk=> exact hr.elim
  |cont=> exact hr.elim
theorem amv{oc:Obj}(hh:A.handled=none)(hT:T="list"\/T="tuple")(ho:s.heap.get? a=some oc)(hc:oc.cls=.type T){its:Array af}(hd:oc.data=.seq its k)(xs:List Str)(hx:jm (xs.map V.str) its.toList)(hb:its.size+1 < bG)(h: ∀(h':Heap) (tk:Nat),xq prog w h' s.heap.objs.size (fun y=> decide (y∈jk xs)) (jk xs).length -> (∀b o,b < s.heap.objs.size -> s.heap.get? b=some o -> h'.get? b=some o) -> Q (.ref s.heap.objs.size) {s with heap:=h',toks:=tk}):
  wpAny (model prog w) A (call (.type "set") [.ref a]) Q E s:=by
 have hlen:xs.length=its.size:=by
  have:=hx.length
  rw [ao]at this
  simpa using this
 refine ake hh hT ho hc hd (fun A' I fp wr P St s0 R W hP nf st g0 k=> ?_) h
 obtain⟨led,hled,g0⟩:=g0
 refine axr W s.heap.objs.size nf xs hlen (fun i v hv=> ?_) hb its.size 0 s0 (by lia) st ⟨_,#[],0,_,g0,⟨rfl,rfl,rfl⟩,rfl,⟨fun e he=> by simp at he,fun k=> by simp [jk],by decide,rfl,rfl⟩,hled,fun z=> absurd rfl z⟩ k
 have hv:=hP i v hv
 have hi:i < its.size:=(bP.mp hv).1
 have hxi:(xs.map V.str)[i]?=some (.str xs[i]):=by rw [aL,ar (by lia)];rfl
 obtain⟨u,hu,ru⟩:=hx.get hxi
 rw [bL,hv]at hu
 cases hu
 obtain⟨t,e⟩:=(show∃t,v=gb xs[i] t from ru)
 exact⟨xs[i],t,ar (by lia),e⟩
def amw(P:aT)(w:aX)(p:Addr)(xs:List Str):HO:=.ext fun h=> xq P w h p (fun y=> decide (y∈jk xs)) (jk xs).length
theorem a1t{xs:List Str}(hS:xq P w h p (fun y=> decide (y∈jk xs)) (jk xs).length):ke P w H h p (amw P w p xs):=by
 refine⟨hS,?_,fun h1 h2 z k=> ?_⟩
 ·obtain⟨o,_,_,_,e,_⟩:=hS
  exact⟨o,e⟩
 ·obtain⟨o,es,ep,t,e,q⟩:=z
  exact⟨o,es,ep,t,k o e,q⟩
theorem auq(hc:X.calm=true):vb X (.type "set") (fun vs H Q=> ∃a xs,vs=[.ref a]/\(SqL X.K H a (xs.map V.str)\/SqT X.K H a (xs.map V.str))/\xs.length < 4000/\ ∀p H',New H p (amw X.prog X.w p xs) H' -> Q (.ref p) H'):=by
 intro pins s σ H vs us Q I r h
 obtain⟨a,xs,rfl,hS,hl,q⟩:=h
 obtain⟨u,rfl,ru⟩:=vals1 r
 cases ru
 have hh:=I.ok.hd hc
 have fin: ∀(h':Heap) (tk:Nat),xq X.prog X.w h' s.heap.objs.size (fun y=> decide (y∈jk xs)) (jk xs).length -> (∀b o,b < s.heap.objs.size -> s.heap.get? b=some o -> h'.get? b=some o) ->
   EP X pins σ Q (.ref s.heap.objs.size) {s with heap:=h',toks:=tk}:=fun h' tk z k=>
  ⟨.ref s.heap.objs.size,upd H s.heap.objs.size (amw X.prog X.w s.heap.objs.size xs),I.laid (fun b u e=> k b u (ay e) e) (au _) (a1t z),rfl,q _ _ ⟨I.fresh,rfl⟩⟩
 rcases hS with hS|hS
 ·obtain⟨its,rv,⟨o,n,e,c,dd,d⟩,z⟩:=I.list hS
  have hsz:its.toArray.size+1 < bG:=by
   have:=rv.length
   rw [ao]at this
   rw [ax]
   unfold bG
   lia
  exact amv hh (.inl rfl) e c d xs (by simpa using rv) hsz fin
 ·obtain⟨its,rv,⟨o,e,c,n,d⟩,z⟩:=I.tuple hS
  have hsz:its.toArray.size+1 < bG:=by
   have:=rv.length
   rw [ao]at this
   rw [ax]
   unfold bG
   lia
  exact amv hh (.inr rfl) e c d xs (by simpa using rv) hsz fin
theorem avg:vb X (.builtin "len") (fun vs H Q=> ∃a xs,vs=[.ref a]/\H a=some (amw X.prog X.w a xs)/\Q (.int (jk xs).length) H):=by
 intro pins s σ H vs us Q I r h
 obtain⟨a,xs,rfl,hS,q⟩:=h
 obtain⟨u,rfl,ru⟩:=vals1 r
 cases ru
 obtain⟨hh,_,_⟩:=(show ke X.prog X.w H s.heap a (amw X.prog X.w a xs) from I.hok a _ hS)
 obtain⟨o,es,ep,t,e,ex,d,⟨_,_,hb,hf,hn⟩,_⟩:=hh
 refine call_len_set e ex d hf (by unfold bG at hb;lia) ⟨.int es.size,H,I.tok _,⟨_,rfl⟩,?_⟩
 rw [hn]
 exact q
theorem yc:Slot "set_iterator" "__next__" "set_iterator.__next__":=.of (owner:="set_iterator") (n:="__next__") (by rw [kZ,g6];kernel_rfl) (by decide+kernel) (by decide+kernel) (by decide+kernel) (by first|exact .inl (by decide+kernel)|exact .inr (by decide+kernel)) (by rw [iD];kernel_rfl)
theorem aej:entryFor table "set_iterator.__next__"=some cJ.«set_iterator.__next__»:=entryFor_of_tree (by kernel_rfl)
theorem anb:Manifest.owners.lookup (String.ofList ['r','o','t','a','r','e','t','i','_','t','e','s'].reverse)=some Manifest.sig_set_iterator:=by kernel_rfl
theorem agf(a:af):argsOk "set_iterator.__next__" ⟨[a],[]⟩:=by
 unfold argsOk;rw [mr (id:="set_iterator.__next__") (n:=['_','_','t','x','e','n','_','_']) (o:=['r','o','t','a','r','e','t','i','_','t','e','s']) (by kernel_rfl) anb];kernel_rfl
theorem apu:Slot "set" "__iter__" "set.__iter__":=.of (owner:="set") (n:="__iter__") (by rw [kZ,g6];kernel_rfl) (by decide+kernel) (by decide+kernel) (by decide+kernel) (by first|exact .inl (by decide+kernel)|exact .inr (by decide+kernel)) (by rw [iD];kernel_rfl)
theorem ax0:entryFor table "set.__iter__"=some cJ.«frozenset.__iter__»:=entryFor_alias (id':="frozenset.__iter__") (by kernel_rfl) rfl (by decide+kernel) (by kernel_rfl)
theorem a1m(a:af):argsOk "set.__iter__" ⟨[a],[]⟩:=by
 unfold argsOk;rw [mr (id:="set.__iter__") (n:=['_','_','r','e','t','i','_','_']) (o:=['t','e','s']) (by kernel_rfl) PySem.F.owner_set];kernel_rfl
noncomputable def sIt(fst:af)(i:Nat)(a:Addr)(n ep:Nat):Obj:={cls:=.type "set_iterator",dict:=none,data:=.fields #[fst,rawInt i,.ref a,rawInt n,rawInt ep],slots:= #[]}
section
variable{prog:aT}{w:aX}{A:bj}{E:af -> ak -> Prop}{s:ak}{I a:Addr}{i n ep:Nat}{o:Obj}{es:Array (Int×af)}{t:cR}{Q:Option af -> ak -> Prop}
theorem ax6{sl nx:Nat}{x:af}(hI:s.heap.get? I=some (sIt (rawInt sl) i a n ep))(ho:s.heap.get? a=some o)(hd:o.data=.set es ep t)(hf:t.fits es.size=true)(hn:es.size=n)
  (hx: ∀(E':af -> ak -> Prop) (Q':Option (af×Nat) -> ak -> Prop),Q' (some (x,nx)) s -> wpAny (model prog w) A.in1 (setNext a sl i ep) Q' E' s)
  (hQ: ∀h',h'.get? I=some (sIt (rawInt nx) (i+1) a n ep) -> bJ I s.heap h' -> Q (some x) {s with heap:=h'}):wpAny (model prog w) A (pyNext (.ref I)) Q E s:=by
 unfold pyNext
 refine ae (d7 (br (name:=bg "__next__") ⟨_,hI,rfl⟩ yc (bu yc ⟨_,hI,rfl⟩ aej ?_ (agf _))))
 unfold cJ.«set_iterator.__next__»
 refine ae (ah ?_);refine ae (iE hI rfl ?_)
 dsimp only [rawInt]
 refine ae (eN ho hd hf ?_)
 rw [if_neg (by rw [hn];simp)]
 refine ae (hx _ _ ?_)
 refine ae (cw hI rfl (by simp) ?_)
 have g1:=bK (de (·.setIfInBounds 0 (rawInt nx))) hI rfl
 refine ae (cw g1 rfl (by simp [de,sIt]) ?_)
 have g2:=bK (de (·.setIfInBounds 1 (rawInt ((i:Int)+1)))) g1 rfl
 refine ah ⟨_,rfl,ah (hQ _ ?_ ((b8 ..).trans (b8 ..)))⟩
 exact g2
theorem ax9{sl:Nat}(hh:A.handled=none)(hI:s.heap.get? I=some (sIt (rawInt sl) i a n ep))(ho:s.heap.get? a=some o)(hd:o.data=.set es ep t)(hf:t.fits es.size=true)(hn:es.size=n)
  (hx: ∀(E':af -> ak -> Prop) (Q':Option (af×Nat) -> ak -> Prop),Q' none s -> wpAny (model prog w) A.in1 (setNext a sl i ep) Q' E' s)
  (hQ: ∀h',fj I s.heap h' -> Q none {s with heap:=h'}):wpAny (model prog w) A (pyNext (.ref I)) Q E s:=by
 unfold pyNext
 refine ae (d7 (br (name:=bg "__next__") ⟨_,hI,rfl⟩ yc (bu yc ⟨_,hI,rfl⟩ aej ?_ (agf _))))
 unfold cJ.«set_iterator.__next__»
 refine ae (ah ?_);refine ae (iE hI rfl ?_)
 dsimp only [rawInt]
 refine ae (eN ho hd hf ?_)
 rw [if_neg (by rw [hn];simp)]
 refine ae (hx _ _ ?_)
 refine ae (cw hI rfl (by simp) ?_)
 refine ae ?_
 simp only [newExc,newTuple]
 refine ae (bD ?_ (by size_fits));refine ae (m:=iF _ _) (nn (a:=aZ) (by first|rfl|(simp only [iF];rfl)) ?_)
 refine bD ?_ (by size_fits);simp only [raiseNew]
 refine ae (ms ?_);rw [show A.in1.handled=none from hh]
 refine ae (ah (np ?_));refine ae (eG (T:="StopIteration") (b:=true) ⟨_,aA _ rfl,rfl⟩ iG ?_);exact ah (hQ _ (((b8 ..).extBut.push _).push _))
theorem axf{T:Addr}{oT:Obj}{ps:Array af}{kT p:Nat}{x:af}{hv:Int}{tp:Tok}(hI:s.heap.get? I=some (sIt (.ref T) i a n ep))(ho:s.heap.get? a=some o)(hd:o.data=.set es ep t)(hf:t.fits es.size=true)(hn:es.size=n)
  (hT:s.heap.get? T=some oT) (hTd:oT.data=.seq ps kT) (hp:ps[i]?=some (.int p tp)) (hx:es[p]?=some (hv,x))
  (hQ: ∀h',h'.get? I=some (sIt (.ref T) (i+1) a n ep) -> bJ I s.heap h' -> Q (some x) {s with heap:=h'}):wpAny (model prog w) A (pyNext (.ref I)) Q E s:=by
 unfold pyNext
 refine ae (d7 (br (name:=bg "__next__") ⟨_,hI,rfl⟩ yc (bu yc ⟨_,hI,rfl⟩ aej ?_ (agf _))))
 unfold cJ.«set_iterator.__next__»
 refine ae (ah ?_);refine ae (iE hI rfl ?_)
 dsimp only [rawInt]
 refine ae (eN ho hd hf ?_)
 rw [if_neg (by rw [hn];simp)]
 refine ae ?_
 unfold seqItems?
 refine ae (jL hT ?_)
 rw [hTd]
 refine ah ?_
 dsimp only
 rw [show (Int.toNat (i:Int))=i from dh i,hp]
 dsimp only
 refine ae ?_
 unfold setNextDrawn
 refine ae (dE ho hd hf ?_);dsimp only
 rw [if_neg (by simp)]
 rw [show (Int.toNat (p:Int))=p from dh p,hx]
 refine ah ?_
 refine ae (cw hI rfl (by simp) ?_)
 have g1:=bK (de (·.setIfInBounds 1 (rawInt ((i:Int)+1)))) hI rfl
 refine ah ⟨_,rfl,ah (hQ _ ?_ (b8 ..))⟩
 exact g1
theorem avk{T:Addr}{oT:Obj}{ps:Array af}{kT:Nat}(hh:A.handled=none)(hI:s.heap.get? I=some (sIt (.ref T) i a n ep))(ho:s.heap.get? a=some o)(hd:o.data=.set es ep t)(hf:t.fits es.size=true)(hn:es.size=n)
  (hT:s.heap.get? T=some oT) (hTd:oT.data=.seq ps kT) (hp:ps[i]?=none)
  (hQ: ∀h',fj I s.heap h' -> Q none {s with heap:=h'}):wpAny (model prog w) A (pyNext (.ref I)) Q E s:=by
 unfold pyNext
 refine ae (d7 (br (name:=bg "__next__") ⟨_,hI,rfl⟩ yc (bu yc ⟨_,hI,rfl⟩ aej ?_ (agf _))))
 unfold cJ.«set_iterator.__next__»
 refine ae (ah ?_);refine ae (iE hI rfl ?_)
 dsimp only [rawInt]
 refine ae (eN ho hd hf ?_)
 rw [if_neg (by rw [hn];simp)]
 refine ae ?_
 unfold seqItems?
 refine ae (jL hT ?_)
 rw [hTd]
 refine ah ?_
 dsimp only
 rw [show (Int.toNat (i:Int))=i from dh i,hp]
 dsimp only
 refine ae (cw hI rfl (by simp) ?_)
 have g1:=bK (de (·.setIfInBounds 0 (rawInt 0))) hI rfl
 refine ae (cw g1 rfl (by simp [de,sIt]) ?_)
 refine ae ?_
 simp only [newExc,newTuple]
 refine ae (bD ?_ (by size_fits));refine ae (m:=iF _ _) (nn (a:=aZ) (by first|rfl|(simp only [iF];rfl)) ?_)
 refine bD ?_ (by size_fits);simp only [raiseNew]
 refine ae (ms ?_);rw [show A.in1.handled=none from hh]
 refine ae (ah (np ?_));refine ae (eG (T:="StopIteration") (b:=true) ⟨_,aA _ rfl,rfl⟩ iG ?_)
 exact ah (hQ _ ((((b8 ..).trans (b8 ..)).extBut.push _).push _))
end
theorem apm:Slot "set_iterator" "__iter__" "set_iterator.__iter__":=.of (owner:="set_iterator") (n:="__iter__") (by rw [kZ,g6];kernel_rfl) (by decide+kernel) (by decide+kernel) (by decide+kernel) (by first|exact .inl (by decide+kernel)|exact .inr (by decide+kernel)) (by rw [iD];kernel_rfl)
theorem awf:entryFor table "set_iterator.__iter__"=some cJ.«dict_keyiterator.__iter__»:=entryFor_alias (id':="dict_keyiterator.__iter__") (by kernel_rfl) rfl (by decide+kernel) (by kernel_rfl)
theorem a20(a:af):argsOk "set_iterator.__iter__" ⟨[a],[]⟩:=by
 unfold argsOk;rw [mr (id:="set_iterator.__iter__") (n:=['_','_','r','e','t','i','_','_']) (o:=['r','o','t','a','r','e','t','i','_','t','e','s']) (by kernel_rfl) anb];kernel_rfl
section
variable{prog:aT}{w:aX}{A:bj}{E:af -> ak -> Prop}{s:ak}{I a:Addr}{i n ep:Nat}{o:Obj}{es:Array (Int×af)}{t:cR}
theorem aoq{fst:af}(hI:s.heap.get? I=some (sIt fst i a n ep))(h:Q (.ref I) s):wpAny (model prog w) A (pyIter (.ref I)) Q E s:=by
 refine wpAny_pyIter_slot ⟨_,hI,rfl⟩ apm (bu apm ⟨_,hI,rfl⟩ awf ?_ (a20 _))
 show wpAny _ _ (ret (.ref I)) _ _ s
 exact ah ⟨_,rfl,"set_iterator",_,⟨_,hI,rfl⟩,yc.lookup,h⟩
theorem aze(hh:A.handled=none)(hne:a≠I)(hd:o.data=.set es ep t)(hf:t.fits es.size=true)(ord:List af)(hn:es.size=ord.length)(sl:Nat -> Nat)
  (step: ∀(i:Nat) (x:af) (s:ak) (E':af -> ak -> Prop) (Q':Option (af×Nat) -> ak -> Prop),s.heap.get? a=some o -> ord[i]?=some x -> Q' (some (x,sl (i+1))) s -> wpAny (model prog w) A.in1 (setNext a (sl i) i ep) Q' E' s)
  (stop: ∀(s:ak) (E':af -> ak -> Prop) (Q':Option (af×Nat) -> ak -> Prop),s.heap.get? a=some o -> Q' none s -> wpAny (model prog w) A.in1 (setNext a (sl ord.length) ord.length ep) Q' E' s):
  nD prog w A I [I,a] [I] ord.length (fun i v=> ord[i]?=some v) (fun i h=> h.get? I=some (sIt (rawInt (sl i)) i a ord.length ep)/\h.get? a=some o) where
 sub:=fun b hb=> (bd.mp hb)▸aB
 frame:=fun _ _ _ st k=> ⟨k I (by simp) _ st.1,k a (by simp) _ st.2⟩
 item:=fun i s R E hi st hQ=> by
  refine ax6 st.1 st.2 hd hf hn (fun E' Q' z=> step i ord[i] s E' Q' st.2 (ar hi) z) fun h' g sb=> ?_
  exact hQ _ h' s.toks (ar hi) ⟨g,(sb.2 a hne).trans st.2⟩ fun b u hb e=> (sb.2 b (fun z=> hb (by simp [z]))).trans e
 done:=fun s Q E st hQ=> ax9 hh st.1 st.2 hd hf hn (fun E' Q' z=> stop s E' Q' st.2 z) fun h' x=> hQ h' s.toks fun b u hb e=> x b u (fun z=> hb (by simp [z])) e
 self:=fun _ _ _ _ st hQ=> aoq st.1 hQ
theorem a7e{T:Addr}{oT:Obj}{ps:Array af}{kT:Nat}(hh:A.handled=none)(hne:a≠I)(hT:T≠I)(hd:o.data=.set es ep t)(hf:t.fits es.size=true)(ord:List af)(hn:es.size=ord.length)(hTd:oT.data=.seq ps kT)
  (hps:ps.size=ord.length) (step: ∀(i:Nat) (x:af),ord[i]?=some x -> ∃(p:Nat) (tp:Tok) (hv:Int),ps[i]?=some (.int p tp)/\es[p]?=some (hv,x)):
  nD prog w A I [I,a,T] [I] ord.length (fun i v=> ord[i]?=some v) (fun i h=> h.get? I=some (sIt (.ref T) i a ord.length ep)/\h.get? a=some o/\h.get? T=some oT) where
 sub:=fun b hb=> (bd.mp hb)▸aB
 frame:=fun _ _ _ st k=> ⟨k I (by simp) _ st.1,k a (by simp) _ st.2.1,k T (by simp) _ st.2.2⟩
 item:=fun i s R E hi st hQ=> by
  obtain⟨p,tp,hv,e1,e2⟩:=step i ord[i] (ar hi)
  refine axf st.1 st.2.1 hd hf hn st.2.2 hTd e1 e2 fun h' g sb=> ?_
  exact hQ _ h' s.toks (ar hi) ⟨g,(sb.2 a hne).trans st.2.1,(sb.2 T hT).trans st.2.2⟩ fun b u hb e=> (sb.2 b (fun z=> hb (by simp [z]))).trans e
 done:=fun s Q E st hQ=> avk hh st.1 st.2.1 hd hf hn st.2.2 hTd (by rw [←hps];simp) fun h' x=> hQ h' s.toks fun b u hb e=> x b u (fun z=> hb (by simp [z])) e
 self:=fun _ _ _ _ st hQ=> aoq st.1 hQ
theorem atv{src:Source}{Q:Nat -> ak -> Prop}(hk:k≠0)(h: ∀j d',j < k -> Q j {s with drawn:=d'}):wpAny (model prog w) A (choose src k) Q E s:=
 fun Γ p _=> by
  unfold choose
  rw [Sem.wp_choose]
  exact⟨hk,h _ _ (Nat.mod_lt _ (Nat.pos_of_ne_zero hk))⟩
theorem aa4{α:Type}: ∀{xs:List α} {j:Nat} {x:α},xs[j]?=some x -> (x::xs.eraseIdx j).Perm xs
 |[],_,_,e=> by simp at e
 |y::r,0,x,e=> by simp at e;subst e;exact .refl _
 |y::r,j+1,x,e=> by
  rw [eR]at e
  rw [kK]
  exact (lc.swap _ _ _).trans ((aa4 e).cons _)
theorem ame{α:Type}: ∀(k:Nat) (xs:List α) (s:ak) (Q:List α -> ak -> Prop),xs.length <=k -> (∀ys d',ys.Perm xs -> Q ys {s with drawn:=d'}) -> wpAny (model prog w) A (mU k xs) Q E s
 |0,[],s,Q,_,h=> by unfold mU;exact ah (h [] s.drawn (.refl _))
 |_+1,[],s,Q,_,h=> by unfold mU;exact ah (h [] s.drawn (.refl _))
 |0,_::_,_,_,z,_=> absurd z (by simp)
 |k+1,y::r,s,Q,z,h=> by
  unfold mU
  refine ae (atv (by simp) fun j d' hj=> ?_)
  rw [ar hj]
  dsimp only
  have l:((y::r).eraseIdx j).length <=k:=by rw [i7 hj];simpa using z
  refine ae (ame k _ _ _ l fun ys d'' p=> ah (h _ d'' ?_))
  exact (p.cons _).trans (aa4 (ar hj))
theorem ata{α:Type}(nx:Nat -> Nat)(xs:Array α):(g9 nx xs).toList.Perm xs.toList:=by
 have all: ∀(f k:Nat) (left:List α) (out:Array α),left.length <=f -> (mV nx f k left out).toList.Perm (out.toList++left):=by
  intro f
  induction f with
  |zero=>
   intro k left out z
   have:left=[]:=eS.mp (Nat.le_zero.mp z)
   subst this
   unfold mV
   simp
  | succ f ih=>
   intro k left out z
   unfold mV
   cases left with
   |nil=> simp
   |cons y r=>
    have hj:nx k % (y::r).length < (y::r).length:=Nat.mod_lt _ (by simp)
    rw [ar hj]
    dsimp only
    refine (ih _ _ _ (by rw [i7 hj];simpa using z)).trans ?_
    rw [jI,cQ]
    exact lc.append_left _ (aa4 (ar hj))
 unfold g9
 have:=all xs.size 0 xs.toList #[] (by simp)
 simpa using this
end
section
variable{prog:aT}{w:aX}{A:bj}{E:af -> ak -> Prop}{s:ak}{I a:Addr}{i n ep:Nat}{o:Obj}{es:Array (Int×af)}{t:cR}
theorem acz{Q:Bool -> ak -> Prop}(h:Q (w.params.followText "set-order") s):wpAny (model prog w) A setsByText Q E s:=by
 unfold setsByText;exact ae (kB (ah h))
theorem akv{sl:Nat}{Q:Option (af×Nat) -> ak -> Prop}(hb:w.params.followText "set-order"=true)(ho:s.heap.get? a=some o)(hd:o.data=.set es ep t)(hf:t.fits es.size=true)
  (h:Q (((g9 (w.params.setOrder a ep) es).toList.map (·.2))[i]?.map fun x=> (x,sl)) s):wpAny (model prog w) A (setNext a sl i ep) Q E s:=by
 unfold setNext
 refine ae (dE ho hd hf ?_);refine ae (acz ?_)
 rw [hb,if_pos rfl]
 dsimp only
 rw [if_neg (by simp)]
 refine ae ?_
 unfold setWalk
 refine ae (dE ho hd hf ?_);refine ae (acz ?_)
 rw [hb,if_pos rfl]
 refine ae (kB (ah (ah ?_)))
 have e:((g9 (w.params.setOrder a ep) es).toList.map (·.2))[i]?.map (fun x=> (x,sl))=((g9 (w.params.setOrder a ep) es)[i]?).map fun e=> (e.2,sl):=by
  rw [aL,bL]
  cases (g9 (w.params.setOrder a ep) es)[i]? <;> rfl
 rw [e]at h
 exact h
theorem ahy{sl:Nat}{Q:Option (af×Nat) -> ak -> Prop}(hb:w.params.followText "set-order"=false)(hl:t.led=true)(hz:(!t.plain&&decide (es.size > 1))=false)(ho:s.heap.get? a=some o)(hd:o.data=.set es ep t)(hf:t.fits es.size=true)
  (h:Q (match es[cP t.place sl]?,t.place[cP t.place sl]? with|some (_,x),some j=> some (x,j+1)|_,_=> none) s):wpAny (model prog w) A (setNext a sl i ep) Q E s:=by
 unfold setNext
 refine ae (dE ho hd hf ?_);refine ae (acz ?_)
 rw [hb,if_neg aq];dsimp only
 refine ie (fun c=> ?_) (fun _=> ?_)
 ·have c':(!t.plain&&decide (es.size > 1))=true:=c
  rw [hz]at c'
  cases c'
 refine ae ?_
 show wpAny _ _ (if (!t.led&& !es.isEmpty)=true then unsupported "set:maker-not-led" else pure ()) _ _ _
 rw [hl,if_neg (by simp)];exact ah (ah h)
theorem aj3{p:Array Nat}(h:ST.Ris p.toList)(hi:i <=p.size):cP p (if i=0 then 0 else p.getD (i - 1) 0+1)=i:=by
 obtain⟨b1,b2,b3⟩:=ST.below_spec p (if i=0 then 0 else p.getD (i - 1) 0+1) h
 generalize hb:cP p (if i=0 then 0 else p.getD (i - 1) 0+1)=b at b1 b2 b3
 have gd: ∀(k d:Nat) (hk:k < p.size),p.getD k d=p[k]:=fun k d hk=> by simp [gy,hk]
 have lt: ∀(x y:Nat) (hx:x < y) (hy:y < p.size),p[x] < p[y]:=fun x y hx hy=> by
  have:=ST.ris_get h hx (by rw [aK];exact hy)
  simpa using this
 rcases Nat.lt_trichotomy b i with z|z|z
 ·have hi0:i≠0:=by lia
  rw [if_neg hi0]at b3
  have:=b3 (i - 1) (by lia) (by lia)
  rw [gd (i - 1) _ (by lia),gd (i - 1) _ (by lia)]at this
  lia
 ·exact z
 ·have:=b2 i z
  rw [gd i _ (by lia)]at this
  by_cases hi0:i=0
  ·rw [if_pos hi0]at this;lia
  ·rw [if_neg hi0,gd (i - 1) _ (by lia)]at this
   have:=lt (i - 1) i (by lia) (by lia)
   lia
structure Beg (prog:aT) (w:aX) (A:bj) (s:ak) (a:Addr) (es:Array (Int×af)) (I:Addr) (h1:Heap) (ord:List af) (fp:List Addr) (St:Nat -> Heap -> Prop):Prop where
 perm:ord.Perm (es.toList.map (·.2))
 keep: ∀b u,s.heap.get? b=some u -> h1.get? b=some u
 new:s.heap.objs.size <=I
 away: ∀b∈fp,b=a\/s.heap.objs.size <=b
 lt: ∀b∈fp,b < h1.objs.size
 walk:nD prog w A I fp [I] ord.length (fun i v=> ord[i]?=some v) St
 st:St 0 h1
theorem arm(es:Array (Int×af)):(bn es.size).map (fun p=> (es[p]?.map (·.2)).getD .none)=es.toList.map (·.2):=by
 refine dF fun j=> ?_
 rw [aL,aL,bL (xs:=es)]
 by_cases c:j < es.size
 ·rw [eO c,bV c];simp [c]
 ·rw [cX (by simpa using c),gO (by lia)];rfl
theorem a28(hh:A.handled=none)(ho:s.heap.get? a=some o)(hex:o.ExactSet)(hd:o.data=.set es ep t)(hf:t.fits es.size=true)(hz:es.size < bG)(tx:ak4 w es.size t)(hQ: ∀I h1 d' ord fp St,Beg prog w A s a es I h1 ord fp St -> Q (.ref I) {s with heap:=h1,drawn:=d'}):wpAny (model prog w) A (pyIter (.ref a)) Q E s:=by
 have hT:s.TypeIs (.ref a) "set":=⟨o,ho,hex.1⟩;have hal:a < s.heap.objs.size:=ay ho
 refine wpAny_pyIter_slot hT apu (bu apu hT ax0 ?_ (a1m _))
 unfold cJ.«frozenset.__iter__» Builtin.Frozenset.slot0 slotArgs
 simp only [List.isEmpty_nil,me,cc,↓reduceIte,bind_assoc,dZ,bne_self_eq_false];unfold Builtin.Frozenset.addrOf Builtin.Frozenset.sizeOf
 refine ae (ah ?_);try dsimp only
 refine ae (ah ?_);refine ae (ae (eN ho hd hf (ah ?_)))
 refine ae ?_
 unfold setDrawn
 refine ae (dE ho hd hf ?_);refine ae (acz (ah ?_))
 have fin: ∀(fst:af) (h0:Heap) (d':Drawn) (ord:List af) (fp:List Addr) (St:Nat -> Heap -> Prop),(∀b u,s.heap.get? b=some u -> h0.get? b=some u) -> ord.Perm (es.toList.map (·.2)) ->
   (∀b∈fp,b=a\/s.heap.objs.size <=b) -> (∀b∈fp,b < h0.objs.size+1) -> s.heap.objs.size <=h0.objs.size ->
   nD prog w A h0.objs.size fp [h0.objs.size] ord.length (fun i v=> ord[i]?=some v) St -> St 0 (h0.push (sIt fst 0 a es.size ep)) ->
   wpAny (model prog w) A.in1 (do
    let e←setEpoch a
    let v←newFields "set_iterator" [fst,rawInt 0,aS a,rawInt es.size,rawInt e]
    ret v) (fun f s'=> ∃v,f=Fin.done (Flow.ret v)/\ ∃T' r,s'.TypeIs v T'/\typeLookup (bE T') (bg "__next__")=pure (some r)/\Q v s') E {s with heap:=h0,drawn:=d'}:=by
  intro fst h0 d' ord fp St k p f1 f2 l W z
  refine ae (wpAny_setEpoch_of (k _ _ ho) hd hf ?_)
  unfold newFields
  refine ae (bD ?_);refine ah ⟨_,rfl,"set_iterator",_,⟨_,aA _ rfl,rfl⟩,yc.lookup,hQ _ _ d' ord fp St ⟨p,fun b u e=> aj _ (k b u e),l,f1,fun b hb=> by rw [a9];exact f2 b hb,W,z⟩⟩
 have len: ∀{ord:List af},ord.Perm (es.toList.map (·.2)) -> es.size=ord.length:=fun p=> by
  rw [p.length_eq,ao,aK]
 have two1: ∀b∈ [s.heap.objs.size,a],b=a\/s.heap.objs.size <=b:=fun b m=> by
  rcases aw.mp m with e|m
  ·exact .inr (fB e.symm)
  ·exact .inl (bd.mp m)
 have two2: ∀b∈ [s.heap.objs.size,a],b < s.heap.objs.size+1:=fun b m=> by
  rcases aw.mp m with e|m
  ·exact e▸eL _
  ·rw [bd.mp m];exact cD hal
 cases hb:w.params.followText "set-order" with
 | true=>
  rw [if_neg (by simp)]
  have p:=((ata (w.params.setOrder a ep) es).map (·.2))
  refine ae (ah (fin _ _ _ ((g9 (w.params.setOrder a ep) es).toList.map (·.2)) [s.heap.objs.size,a] _ (fun _ _ e=> e) p two1 two2 (au _) (aze hh (aR hal) hd hf _ (len p) (fun _=> 0) ?_ ?_) ⟨?_,aj _ ho⟩))
  ·intro i x s E' Q' e1 e2 z
   refine akv hb e1 hd hf ?_
   rw [e2];exact z
  ·intro s E' Q' e1 z
   refine akv hb e1 hd hf ?_
   rw [cX (au _)];exact z
  ·rw [←len p];exact aA _ rfl
 | false=>
  by_cases hz2:(!t.plain&&decide (es.size > 1))=true
  ·rw [aG,Bool.not_eq_true',decide_eq_true_eq]at hz2
   obtain⟨hp,hz1⟩:=hz2
   rw [if_pos (by show (!false&&(!t.plain&&decide (es.size > 1)))=true;rw [hp,decide_eq_true hz1];rfl)]
   refine ae (ame _ _ _ _ (by simp) fun ys d' p=> ?_)
   have l:ys.length=es.size:=by rw [p.length_eq,List.length_range]
   have big:es.size <=sizeLine:=ef hz
   unfold newTuple
   refine ae (bD ?_ (by show (ys.map fun (i:Nat)=> rawInt i).toArray.size <=sizeLine;simpa [l] using big))
   have q:(ys.map fun p=> (es[p]?.map (·.2)).getD .none).Perm (es.toList.map (·.2)):=by rw [←arm es];exact p.map _
   refine fin (.ref s.heap.objs.size) _ d' (ys.map fun p=> (es[p]?.map (·.2)).getD .none) [(s.heap.push _).objs.size,a,s.heap.objs.size] _ (fun _ _ e=> aj _ e) q ?_ ?_ (by rw [a9];exact eE _)
    (a7e (oT:={cls:=.type "tuple",data:=.seq (ys.map fun (i:Nat)=> rawInt i).toArray}) (ps:=(ys.map fun (i:Nat)=> rawInt i).toArray) hh (by rw [a9];exact aR (cD hal)) (by rw [a9];exact aR (eL _)) hd hf _ (len q) rfl (by simp) ?_) ⟨?_,?_,?_⟩
   ·intro b m
    rw [a9]at m
    simp only [aw,bc,or_false]at m
    rcases m with rfl|rfl|rfl
    ·exact .inr (eE _)
    ·exact .inl rfl
    ·exact .inr (au _)
   ·intro b m
    rw [a9]at m⊢
    simp only [aw,bc,or_false]at m
    rcases m with rfl|rfl|rfl
    ·exact eL _
    ·exact cD (cD hal)
    ·exact Nat.le_succ_of_le (eL _)
   ·intro i x e
    rw [aL]at e
    cases c:ys[i]? with
    |none=> rw [c]at e;cases e
    | some j=>
     rw [c]at e
     have hj:j < es.size:=by
      have:=p.mem_iff.mp (bw c)
      simpa using this
     have hx:x=es[j].2:=by
      simp only [ig,ee]at e
      rw [←e,bV hj];rfl
     exact⟨j,0,es[j].1,by simp [c,rawInt],by rw [bV hj,hx]⟩
   ·rw [←len q];exact aA _ rfl
   ·exact aj _ (aj _ ho)
   ·exact aj _ (by exact aA _ rfl)
  ·have hz2:(!t.plain&&decide (es.size > 1))=false:=by simpa using hz2
   rw [if_neg (by
    show¬((!false&&(!t.plain&&decide (es.size > 1)))=true)
    rw [hz2];simp)]
   have hl:t.led=true:=by rw [tx.1,hb];rfl
   have hpl:t.place.size=es.size:=by
    simp only [SetTable.fits,aG,beq_iff_eq]at hf
    exact hf.1
   have hr:ST.Ris t.place.toList:=by
    by_cases h1:es.size > 1
    ·rcases tx.2 (by lia) with z|z
     ·rw [z,decide_eq_true h1]at hz2;cases hz2
     ·exact z
    ·refine f7.mpr fun i j hi hj hij=> ?_
     rw [aK]at hj
     lia
   refine ae (ah (fin _ _ _ (es.toList.map (·.2)) [s.heap.objs.size,a] _ (fun _ _ e=> e) (.refl _) two1 two2 (au _) (aze hh (aR hal) hd hf _ (len (.refl _)) (fun i=> if i=0 then 0 else t.place.getD (i - 1) 0+1) ?_ ?_) ⟨?_,aj _ ho⟩))
   ·intro i x s E' Q' e1 e2 z
    have hi:i < es.size:=by
     rw [aL]at e2
     cases c:es.toList[i]? with
     |none=> rw [c]at e2;cases e2
     |some _=> simpa using (aE.mp c).1
    refine ahy hb hl hz2 e1 hd hf ?_
    rw [aj3 hr (by lia)]
    have g1:es[i]?=some (es[i].1,x):=by
     rw [bV hi]
     rw [aL,bL,bV hi]at e2
     simp only [ig,ee]at e2
     rw [←e2]
    have g2:t.place[i]?=some (t.place.getD i 0):=by
     have:i < t.place.size:=by lia
     rw [bV this]
     simp [gy,this]
    rw [g1,g2]
    exact z
   ·intro s E' Q' e1 z
    refine ahy hb hl hz2 e1 hd hf ?_
    rw [show (es.toList.map (·.2)).length=t.place.size by simp [hpl],aj3 hr (au _)]
    rw [gO (by lia)]
    exact z
   ·rw [←len (.refl _)];exact aA _ rfl
end
theorem Inv.drew(I:Inv X pins σ H s)(d':Drawn):Inv X pins σ H {s with drawn:=d'}:=
 ⟨I.ok,I.os,I.bare,I.base,I.loc,I.cell,I.free,I.freeC,I.pin,I.hok,I.len⟩
section
variable{prog:aT}{w:aX}{A:bj}{E:af -> ak -> Prop}{s:ak}{a:Addr}{ep:Nat}{o:Obj}{es:Array (Int×af)}{t:cR}
theorem axx{Q:Bool -> ak -> Prop}(hT:s.TypeIs (.ref a) "set")(h:Q false s):wpAny (model prog w) A (iW (.ref a)) Q E s:=by
 unfold iW;refine ae (dW hT PySem.F.slot_set_len.lookup ?_)
 generalize hid:("set.__len__":String)=id0
 wp_delta
 rw [show splitId id0=some ("set","__len__") from by subst hid;decide+kernel]
 subst hid
 refine ae (eG (T:="set") (b:=true) hT (by rw [iD];kernel_rfl) ?_)
 refine ie (fun z=> absurd z (by decide)) (fun _=> ?_)
 refine ie (fun _=> ?_) (fun z=> absurd (by decide+kernel) z)
 exact ae (eJ hT (ah h))
theorem a1k{R:h8 -> ak -> Prop}(hh:A.handled=none)(ho:s.heap.get? a=some o)(hex:o.ExactSet)(hd:o.data=.set es ep t)(hf:t.fits es.size=true)(hz:es.size < bG)(tx:ak4 w es.size t)
  (S:Addr) (hSa:S≠a) (res:af) (hS:s.heap.get? S=some {cls:=.type "list",data:=.seq #[] 0})
  (hR: ∀h' d' tk (acc:Array af) c,acc.toList.Perm (es.toList.map (·.2)) -> (∀b u,b≠S -> s.heap.get? b=some u -> h'.get? b=some u) -> h'.get? S=some {cls:=.type "list",dict:=none,data:=.seq acc c,slots:= #[]} -> R (.ok (.ret res)) {s with heap:=h',drawn:=d',toks:=tk}):
  wpAny (model prog w) A.in1 (fI (.ref S) (.ref a) res) (fun fin s'=> match fin with|.done f=> R (.ok f) s'|.again c'=> c'.quiet=true/\codeAny (model prog w) A c' R s') (fun e s'=> R (.error e) s') s:=by
 have hT:s.TypeIs (.ref a) "set":=⟨o,ho,hex.1⟩;have hSl:S < s.heap.objs.size:=ay hS
 unfold fI;refine ae (eJ (T:="set") hT ?_)
 have n1:kC (.ref S) (.ref a)=false:=by simp [kC,hSa]
 have n2:(bE "set"==bE "list")=false:=by decide
 have n3:(bE "set"==bE "tuple")=false:=by decide
 simp only [n1,n2,n3,mo,cc,if_false]
 refine ae (a28 hh ho hex hd hf hz tx fun I h1 d' ord fp St B=> ?_)
 have hSf:S∉fp:=fun m=> by
  rcases B.away S m with e|e
  ·exact hSa e
  ·exact absurd hSl (jP.mpr e)
 have hSI:S≠I:=fun e=> absurd hSl (jP.mpr (e▸B.new))
 have hlen:ord.length <=sizeLine:=by
  rw [B.perm.length_eq,ao,aK];exact ef hz
 have key: ∀(h:Heap) (c1 tk:Nat),St 0 h -> (∀b u,b≠S -> s.heap.get? b=some u -> h.get? b=some u) -> h.get? S=some {cls:=.type "list",data:=.seq #[] c1} ->
   codeAny (model prog w) A (.builtin "list.extend.loop" ⟨[.ref S,.ref I,res],[]⟩) R {s with heap:=h,drawn:=d',toks:=tk}:=by
  intro h c1 tk st k g
  refine codeAny_extend_loopS B.walk.toS hlen S hSf res ord.length 0 _ #[] c1 rfl (cy _) st g (ItemsOf.nil _) fun s' acc c mv g' it=> ?_
  rw [Moved.eq_with mv]
  have ea:acc.toList=ord:=by
   refine dF fun j=> ?_
   rw [bL]
   cases c:acc[j]? with
   |some v=> exact (it.2 j v c).symm
   |none=>
    have:acc.size <=j:=Array.getElem?_eq_none_iff.mp c
    rw [it.1]at this
    exact (cX this).symm
  refine hR s'.heap d' s'.toks acc c (ea▸B.perm) (fun b u hb e=> mv.heap b u (fun m=> ?_) (k b u hb e)) g'
  rcases aw.mp m with e'|m
  ·exact hb e'
  ·exact absurd (ay e) (by rw [bd.mp m];exact jP.mpr B.new)
 have g1:=B.keep _ _ hS
 refine ae (bC (axx (a:=a) ⟨o,B.keep _ _ ho,hex.1⟩ ?_))
 refine ie (fun _=> ?_) (fun _=> ah ⟨fU jQ _,key _ 0 _ B.st (fun b u _ e=> B.keep b u e) g1⟩)
 refine ae (cB (ae ?_))
 show wpAny _ _ (updateSeq S (·.push .none)>>=fun _=> updateSeq S (·.pop)) _ _ _;refine ae (wpAny_updateSeq g1 rfl ?_)
 have g2:=bK (eA (·.push aZ)) g1 rfl
 refine wpAny_updateSeq (hz:=by seq_fits) g2 rfl ?_
 have g3:=bK (eA (·.pop)) g2 rfl
 refine ah ⟨fU jQ _,key _ _ _ ?_ (fun b u hb e=> ?_) g3⟩
 ·refine B.walk.frame 0 _ _ B.st fun b hb u e=> ?_
  have hbS:S≠b:=fun z=> hSf (z▸hb)
  exact (bO _ _ hbS).trans ((bO _ _ hbS).trans e)
 ·exact (bO _ _ (cW hb)).trans ((bO _ _ (cW hb)).trans (B.keep _ _ e))
theorem ayo{R:List af -> ak -> Prop}(hh:A.handled=none)(ho:s.heap.get? a=some o)(hex:o.ExactSet)(hd:o.data=.set es ep t)(hf:t.fits es.size=true)(hz:es.size < bG)(tx:ak4 w es.size t)
  (h: ∀h' d' tk (ord:List af),ord.Perm (es.toList.map (·.2)) -> (∀b u,s.heap.get? b=some u -> h'.get? b=some u) -> R ord {s with heap:=h',drawn:=d',toks:=tk}):wpAny (model prog w) A (collect (.ref a)) R E s:=by
 unfold collect
 refine ae (lH (dC entry_proto_collect' ?_));rw [dg PySem.F.plain_proto_collect _]
 refine (show wpAny _ A.in1 (newList []>>=fun l=> again (.builtin "list.__iadd__" ⟨[l,.ref a],[]⟩)) _ _ s from ae (bD (ah ⟨fU kL _,dC entry_list_iadd' ?_⟩)))
 rw [dg kL _];have g1:(s.heap.push {cls:=.type "list",data:=.seq ([]:List af).toArray}).get? s.heap.objs.size=some {cls:=.type "list",data:=.seq #[]}:=aA _ rfl
 show wpAny _ A.in1 (fI (.ref s.heap.objs.size) (.ref a) (.ref s.heap.objs.size)) _ _ _
 have key:=a1k (prog:=prog) (A:=A) (s:={s with heap:=s.heap.push {cls:=.type "list",data:=.seq ([]:List af).toArray}})
  (R:=fun (q:h8) (s':ak)=> ∃(h':Heap) (d':Drawn) (tk:Nat) (acc:Array af) (c:Nat),q=.ok (.ret (.ref s.heap.objs.size))/\s'={s with heap:=h',drawn:=d',toks:=tk}/\
   (∀b u,s.heap.get? b=some u -> h'.get? b=some u)/\h'.get? s.heap.objs.size=some {cls:=.type "list",dict:=none,data:=.seq acc c,slots:= #[]}/\acc.toList.Perm (es.toList.map (·.2)))
  hh (aj _ ho) hex hd hf hz tx s.heap.objs.size (dR (ay ho)) (.ref s.heap.objs.size) g1
  (fun h' d' tk acc c p k g=> ⟨h',d',tk,acc,c,rfl,rfl,fun b u e=> k b u (aR (ay e)) (aj _ e),g,p⟩)
 refine cL key (fun fn s' x=> ?_) fun e s' x=> ?_
 ·cases fn with
  |done f=>
   obtain⟨h',d',tk,acc,c,e,rfl,k,g,p⟩:=x
   cases e
   exact (show wpAny _ A (load s.heap.objs.size >>=_) _ _ _ from ae (jL g (ah (h h' d' tk _ p k))))
  |again c1=>
   refine⟨x.1,dU x.2 fun q s2 y=> ?_⟩
   obtain⟨h',d',tk,acc,c,rfl,rfl,k,g,p⟩:=y
   exact (show wpAny _ A (load s.heap.objs.size >>=_) _ _ _ from ae (jL g (ah (h h' d' tk _ p k))))
 ·obtain⟨_,_,_,_,_,e',_⟩:=x;cases e'
end
theorem apw{α:Type}[DecidableEq α]: ∀{l m:List α},l.Nodup -> (∀x∈l,x∈m) -> m.length <=l.length -> l.Perm m
 |[],m,_,_,z=> by
  have:m=[]:=eS.mp (Nat.le_zero.mp z)
  rw [this]
 | x::r,m,nd,sub,z=> by
  have hx:=sub x aB
  rw [dX]at nd
  have p:=List.perm_cons_erase hx
  refine ((apw nd.2 (fun y hy=> ?_) ?_).cons x).trans p.symm
  ·have:y≠x:=fun e=> nd.1 (e▸hy)
   exact (List.mem_erase_of_ne this).mpr (sub y (az _ hy))
  ·rw [List.length_erase_of_mem hx]
   simp only [aQ]at z
   lia
def Nx(n:Nat)(Pv:Addr -> Nat -> List V -> Hp -> Prop)(D:Addr)(i:Nat)(ys:List V)(H:Hp):Prop:= ∃m',m' < n - i/\m'=n - (i+1)/\i+1 <=n/\ys.length <=i+1/\Pv D (i+1) ys H
theorem nx{Pv:Addr -> Nat -> List V -> Hp -> Prop}{D:Addr}(hi:i < n)(hl:ys.length <=i+1)(p:Pv D (i+1) ys H):Nx n Pv D i ys H:=⟨n - (i+1),by lia,rfl,hi,hl,p⟩
def ar8(K:am)(mg:Str -> Option af)(x:Str)(vs:List V):Prop:= ∃a,mg x=some (.ref a)/\ ∀H,SqT K H a vs
theorem auj(hc:X.calm=true):vb X (.builtin "all") (fun vs H Q=> ∃(a:Addr) (bs:List Bool),vs=[.ref a]/\SqL X.K H a (bs.map V.bl)/\Q (.bl (bs.all id)) H):=by
 intro pins s σ H vs us Q I r h
 obtain⟨a,bs,rfl,hS,q⟩:=h
 obtain⟨u,rfl,ru⟩:=vals1 r
 cases ru
 have hh:X.A.in1.handled=none:=I.ok.hd hc
 obtain⟨its,rv,⟨o,n,e,c,dd,d⟩,z⟩:=I.list hS
 have l1:s.heap.IsList a its.toArray:=⟨o,e,c,n,d⟩
 have hl:=rv.length
 rw [ao]at hl
 refine call_all_walk (eg l1 ⟨s.heap.objs.size,_,_,_,_,_,fun i=> bs.getD i true,rfl,Walks.list hh _ a (aR (ay e)) its.toArray,⟨⟨_,aA _ rfl,rfl,rfl⟩,l1.push _⟩,?_,fun h' tk k=> ?_⟩)
 ·intro i v s Q E hv hq
  have hi:i < bs.length:=by
   have:=(bP.mp hv).1
   rw [ax]at this
   lia
  have e1:(bs.map V.bl)[i]?=some (.bl bs[i]):=by rw [aL,ar hi];rfl
  obtain⟨u,hu,ru⟩:=rv.get e1
  rw [lI,hu]at hv
  obtain rfl:u=v:=cq hv
  obtain rfl:u=fL bs[i]:=ru
  have e3:bs.getD i true=bs[i]:=by rw [bH,ar hi];rfl
  refine cC ?_
  rw [←e3];exact hq
 ·have ks: ∀b u,s.heap.get? b=some u -> h'.get? b=some u:=fun b u hb=> k b u (fun m=> absurd (ay hb) (by rw [bd.mp m];exact cO _)) (aj _ hb)
  have e2:(bn its.toArray.size).all (fun i=> bs.getD i true)=bs.all id:=by
   rw [ax,←hl]
   rw [aW]
   simp only [aI,eF,id_eq]
   constructor
   ·intro h b hb
    (obtain⟨i,hi,rfl⟩:=iu hb)
    have:=h i hi
    rw [bH,ar hi]at this
    exact this
   ·intro h i hi
    (rw [bH,ar hi])
    exact h _ (cz hi)
  rw [e2]
  exact⟨.bl (bs.all id),H,I.un (Un.kept ks) (I.hok.kept ks),rfl,q⟩
theorem Inv.turnedL{h':Heap}{t':Nat}{ch:List Addr}(I:Inv X pins σ H s)(k: ∀b o,b∉ch -> s.heap.get? b=some o -> h'.get? b=some o)(hf: ∀b∈ch,ack X pins H b):Inv X pins σ H {s with heap:=h',toks:=t'}:=by
 have no: ∀b u,H b=some u -> b∉ch:=fun b u e m=> by rw [(hf b m).1]at e;cases e
 refine I.step (g':=s.gens) (d':=s.drawn) (ch:=ch) (fun b m=> ⟨(hf b m).2.2.2.1,(hf b m).2.1,(hf b m).2.2.2.2.1,(hf b m).2.2.2.2.2⟩) (fun b o _ _ hc e _=> k b o hc e) (fun b o _ _ hc e _=> ⟨o.slots,k b o hc e⟩) (fun _ _ _ _ n=> n)
  (fun b o hc e=> ⟨o,k b o hc e⟩) (fun _ _ e=> e) (fun _ _ _ e=> e) (fun b ps e=> ⟨#[],by rw [e];simp⟩) (fun m hm=> ?_) (fun b u e=> ?_) I.bare
 ·obtain⟨o,es,ep,ho,r⟩:=hm
  exact⟨o,es,ep,k _ o (fun z=> (hf _ z).2.1 rfl) ho,r⟩
 ·refine (I.hok b u e).stay (fun c v hc q=> k c v ?_ q) (fun _ q=> q) fun _ _ q=> q
  rcases hc with z|z
  ·rw [z];exact no b u e
  ·exact no c _ z
theorem a7w:bo "zip"=some (.type "zip"):=by decide+kernel
section
open HT
variable{prog:aT}{w:aX}{A:bj}{E:af -> ak -> Prop}{s:ak}
theorem at1{t sl:Addr}{vl vu:af}{lo hi:Option Int}(ht:IsTup s.heap t items)(hs:s.heap.IsSliceOf sl vl vu .none)(pl:gL vl lo)(pu:gL vu hi)(hw:sIx items.size 0 lo=0/\sIx items.size items.size hi=items.size)(h:Q (.ref t) s):wpAny (model prog w) A (getItem (.ref t) (.ref sl)) Q E s:=by
 obtain⟨os,hos,hcs,hds⟩:=id hs
 have hTs:s.TypeIs (.ref sl) "slice":=⟨os,hos,hcs⟩
 unfold getItem
 try with_reducible refine bC ?_
 first|refine ae (ah ?_)|skip
 refine ae (jG ht.typeIs (by decide) (ae (br (name:=bg "__getitem__") ht.typeIs bz
  (bu bz ht.typeIs ir ?_ (iR _ _)))))
 show wpAny _ _ (d6 (.ref t)>>=_) _ _ s
 refine ae (mj ht (ae (eJ hTs ?_)))
 rw [if_pos (by decide)]
 refine ae (ac3 hs pl pu ?_)
 have yes:(((sIx items.size 0 lo:Nat):Int)==0&&(1:Int)==1&&(sIx items.size items.size hi - sIx items.size 0 lo)==items.size)=true:=by
  rw [hw.1,hw.2];simp
 show wpAny _ _ (if (((sIx items.size 0 lo:Nat):Int)==0&&(1:Int)==1&&(sIx items.size items.size hi - sIx items.size 0 lo)==items.size)=true then _ else _) _ _ s
 rw [if_pos yes]
 unfold Builtin.Tuple.tupleIsExact
 refine ae (ae (eJ ht.typeIs (ah ?_)))
 rw [if_pos (by decide)]
 exact ae (cB (ah ⟨_,rfl,ah h⟩))
end
def a6n(K:am):V -> Option Int -> Option Int -> Hp -> VK -> Prop:=fun x lo hi H Q=> ∃a xs,x=.ref a/\SqT K H a xs/\(zm xs lo hi=xs -> Q (.ref a) H)/\ ∀p H',New H p (.tup (zm xs lo hi)) H' -> Q (.ref p) H'
theorem a2f:SlR X (a6n X.K):=by
 intro pins s σ H x v vl vu lo hi sl Q I rx hs pl pu h
 obtain⟨a,xs,rfl,hx,q1,q2⟩:=h
 by_cases c:HT.sIx xs.length 0 lo=0/\HT.sIx xs.length xs.length hi=xs.length
 ·cases rx
  obtain⟨its,r,ht,hz⟩:=I.tuple hx
  have hlen:its.toArray.size=xs.length:=by rw [ax];exact r.length.symm
  refine⟨"tuple",_,bz.lookup,ht.typeIs,?_⟩
  refine at1 ht hs pl pu (by rw [hlen];exact c) ⟨.ref a,H,I,rfl,q1 ?_⟩
  unfold zm
  rw [c.1,c.2];simp
 ·exact a1q pins s σ H (.ref a) v vl vu lo hi sl Q I rx hs pl pu ⟨a,xs,rfl,hx,c,q2⟩
noncomputable def a3b(K:am):R2:=fun x y H Q=> ∃a b xs ys,x=.ref a/\y=.ref b/\SqT K H a xs/\SqT K H b ys/\xs.length+ys.length <=sizeLine/\(xs=[] -> Q (.ref b) H)/\(xs≠ [] -> ys=[] -> Q (.ref a) H)/\(xs≠ [] -> ys≠ [] -> ∀p H',New H p (.tup (xs++ys)) H' -> Q (.ref p) H')
theorem axi:OpR X (binaryOp .Add) (a3b X.K):=by
 intro pins s σ H x y v u Q I rx ry h
 obtain⟨a,b,xs,ys,rfl,rfl,ha,hb,hz,q0,q1,q2⟩:=h
 by_cases c:xs=[]
 ·cases rx
  cases ry
  obtain⟨its,r1,p1,_⟩:=I.tuple ha
  obtain⟨its2,r2,p2,_⟩:=I.tuple hb
  have e0:its=[]:=r1.nil_iff.mpr c
  subst e0
  obtain⟨⟨cls,dd,data,sl⟩,ho,hc,n,hd⟩:=id p1
  obtain⟨⟨cls2,dd2,data2,sl2⟩,ho2,hc2,n2,hd2⟩:=id p2
  simp only at hc hd hc2 hd2
  subst hc hd hc2 hd2
  exact mR ⟨_,ho,rfl⟩ ⟨_,ho2,rfl⟩ jW mi gK gC (gh _ _) (tuple_addW0 a b _ _ n n2 dd dd2 sl sl2 (by simp)) ⟨ho,ho2,⟨.ref b,H,I,rfl,q0 c⟩⟩
 ·exact a0q pins s σ H (.ref a) (.ref b) v u Q I rx ry ⟨a,b,xs,ys,rfl,rfl,ha,hb,c,hz,q1 c,fun d p hp=> q2 c d p _ ⟨hp,rfl⟩⟩
noncomputable def b01(b:Bool):Int:=if b=true then 1 else 0
def ax8:V -> Option Int
 |.int i=> some i
 |.bl b=> some (b01 b)
 |_=> none
theorem a16:OpR X (binaryOp .Add) (fun x y H Q=> ∃i j,ax8 x=some i/\y=.int j/\Q (.int (i+j)) H):=by
 intro pins s σ H x y v u Q I rx ry h
 obtain⟨i,j,hx,rfl,q⟩:=h
 cases x with
 |int k=> cases hx;exact av0 pins s σ H _ _ v u Q I rx ry ⟨_,j,rfl,rfl,q⟩
 |bl b=>
  cases hx
  cases rx
  obtain⟨t',rfl⟩:=ry
  exact PySem.IntBool.add_bool_int ⟨.int (b01 b+j),H,I.tok _,⟨_,rfl⟩,q⟩
 |_=> cases hx
theorem a2p:OpR X (binaryOp .Sub) (fun x y H Q=> ∃i j,ax8 x=some i/\y=.int j/\Q (.int (i - j)) H):=by
 intro pins s σ H x y v u Q I rx ry h
 obtain⟨i,j,hx,rfl,q⟩:=h
 cases x with
 |int k=> cases hx;exact an5 pins s σ H _ _ v u Q I rx ry ⟨_,j,rfl,rfl,q⟩
 |bl b=>
  cases hx
  cases rx
  obtain⟨t',rfl⟩:=ry
  exact PySem.IntBool.sub_bool_int ⟨.int (b01 b - j),H,I.tok _,⟨_,rfl⟩,q⟩
 |_=> cases hx
theorem a1i:OpR X (binaryOp .Sub) (fun x y H Q=> ∃i j,x=.int i/\ax8 y=some j/\Q (.int (i - j)) H):=by
 intro pins s σ H x y v u Q I rx ry h
 obtain⟨i,j,rfl,hy,q⟩:=h
 cases y with
 |int k=> cases hy;exact an5 pins s σ H _ _ v u Q I rx ry ⟨i,_,rfl,rfl,q⟩
 |bl b=>
  cases hy
  cases ry
  obtain⟨t',rfl⟩:=rx
  exact PySem.IntBool.sub_int_bool ⟨.int (i - b01 b),H,I.tok _,⟨_,rfl⟩,q⟩
 |_=> cases hy
theorem part_of{v:af}{o:Option Int}(p:gL v o): ∃q:Option (Int×Tok),v=partValue q/\q.map (·.1)=o:=by
 cases p with
 |none=> exact⟨none,rfl,rfl⟩
 |int i t=> exact⟨some (i,t),rfl,rfl⟩
section
open HT
variable{prog:aT}{w:aX}{A:bj}{E:af -> ak -> Prop}{s:ak}
theorem ao0{α β:Type}{f g:α -> Option β}: ∀{l:List α},(∀m∈l,f m=g m) -> l.filterMap f=l.filterMap g
 |[],_=> rfl
 |a::r,h=> by
  rw [eM,eM,h a aB,ao0 fun m hm=> h m (az _ hm)]
theorem ay9(xs:Array af):(bn xs.size).filterMap (fun (m:Nat)=> xs[(((xs.size:Nat):Int) - 1+(m:Int)*(-1)).toNat]?)=xs.toList.reverse:=by
 have e: ∀m∈bn xs.size,xs[(((xs.size:Nat):Int) - 1+(m:Int)*(-1)).toNat]?=some (xs.toList.reverse.getD m .none):=fun m hm=> by
  have hm':m < xs.size:=by simpa using hm
  have e1:(((xs.size:Nat):Int) - 1+(m:Int)*(-1)).toNat=xs.size - 1 - m:=by lia
  rw [e1,←bL,bH,List.getElem?_reverse (by simpa using hm')]
  rw [aK,ar (by simp;lia)]
  rfl
 rw [ao0 e]
 refine dF fun j=> ?_
 have fm:(bn xs.size).filterMap (fun m=> some (xs.toList.reverse.getD m .none))=(bn xs.size).map (fun m=> xs.toList.reverse.getD m .none):=by
  rw [←List.filterMap_eq_map];rfl
 rw [fm,aL]
 by_cases c:j < xs.size
 ·rw [eO c,ig,bH,ar (by simpa using c)];rfl
 ·rw [cX (by simpa using c),cX (by simpa using c)];rfl
theorem a1c{t sl:Addr}{tk:Tok}{os:Obj}(ht:IsTup s.heap t items)(hos:s.heap.get? sl=some os)(hcs:os.cls=.type "slice")(hds:os.data=.fields #[.none,.none,.int (-1) tk])(h:Q (.ref s.heap.objs.size) {s with heap:=s.heap.push {cls:=.type "tuple",data:=.seq items.toList.reverse.toArray}})(hsz:items.size <=sizeLine):wpAny (model prog w) A (getItem (.ref t) (.ref sl)) Q E s:=by
 have hTs:s.TypeIs (.ref sl) "slice":=⟨os,hos,hcs⟩
 unfold getItem
 try with_reducible refine bC ?_
 first|refine ae (ah ?_)|skip
 refine ae (jG ht.typeIs (by decide) (ae (br (name:=bg "__getitem__") ht.typeIs bz
  (bu bz ht.typeIs ir ?_ (iR _ _)))))
 show wpAny _ _ (d6 (.ref t)>>=_) _ _ s
 refine ae (mj ht (ae (eJ hTs ?_)))
 rw [if_pos (by decide)]
 refine ae ?_
 unfold fS jN
 refine ae (ae (a7 hos hds (x:=.none) rfl (ae (a7 hos hds (x:=.none) rfl (ae (a7 hos hds (x:=.int (-1) tk) rfl (ah ?_)))))))
 refine ae (slicePart_int ?_)
 show wpAny _ _ (if ((-1:Int)==0)=true then _ else _) _ _ s
 rw [if_neg (by decide)]
 refine ae (iA (ae (iA (ae (ah ?_)))))
 have adj:cT none none (-1) (items.size:Int)=((items.size:Int) - 1,-1):=by
  unfold cT
  simp
 have pls:cb ((items.size:Int) - 1) (-1) (-1)=items.size:=by
  unfold cb
  simp only [show¬((-1:Int)> 0) by decide,if_false]
  split <;> (try simp) <;> lia
 show wpAny _ _ (match cT none none (-1) (items.size:Int) with|(lo,hi)=> pure (lo,(-1:Int),cb lo hi (-1))) _ _ s
 rw [adj]
 show wpAny _ _ (pure ((items.size:Int) - 1,(-1:Int),cb ((items.size:Int) - 1) (-1) (-1))) _ _ s
 rw [pls]
 refine ah ?_
 show wpAny _ _ (if (((items.size:Int) - 1)==0&&(-1:Int)==1&&items.size==items.size)=true then _ else _) _ _ s
 rw [if_neg (by simp),ay9]
 have hk:sizeOk (.seq items.toList.reverse.toArray):=by
  show items.toList.reverse.toArray.size <=sizeLine
  simpa using hsz
 first
  |exact ae (m:=c7 _) (bD (ah ⟨_,rfl,ah h⟩) hk)
  |exact ae (m:=c7 _) (bD (ae (ah (ah ⟨_,rfl,ah h⟩))) hk)
end
section
variable{X:Cx}{e st:Expr}{te ts:TE}{p2 pos:Pos}
noncomputable def a9k(K:am)(te ts:TE):TE:=fun σ H Q=> te σ H fun x H1=> ts σ H1 fun y H2=> ∃a xs,x=.ref a/\y=.int (-1)/\SqT K H2 a xs/\ ∀p H',New H2 p (.tup xs.reverse) H' -> Q (.ref p) H'
theorem avx(r:jm xs us):jm xs.reverse us.reverse:=by
 induction r with
 |nil=> exact .nil
 |cons a _ ih=> rw [fw,fw];exact ih.append (.cons a .nil)
theorem a5e(he:PE X e te)(hst:PE X st ts):PE X (.Subscript e (.Slice none none (some st) p2) pos) (a9k X.K te ts):=by
 refine⟨?_⟩
 intro pins s σ H Q I h
 refine Subscript_ (thn (he pins s σ H _ I h) fun v s1 ⟨x,H1,I1,r1,q1⟩=> ?_)
 refine wpAny_Slice ?_
 rw [ml]
 (refine ah (ah ?_))
 refine thn (hst pins s1 σ H1 _ I1 q1) fun sv s2 ⟨y,H2,I2,r2,a,xs,ex,ey,hq,q⟩=> ?_
 subst ex ey
 cases r1
 obtain⟨tk,rfl⟩:=r2
 have I4:Inv X pins σ H2 {s2 with heap:=s2.heap.push {cls:=.type "slice",data:=.fields #[.none,.none,.int (-1) tk]}}:=I2.kept (t':=s2.toks) fun b ob q=> aj _ q
 obtain⟨its,rv,ht,hz⟩:=I4.tuple hq
 have hlen:its.toArray.size=xs.length:=by rw [ax];exact rv.length.symm
 show wpAny (model X.prog X.w) X.A (mn e (.Slice none none (some st) p2) (.ref a) (.ref s2.heap.objs.size)) (EP X pins σ Q) X.xe {s2 with heap:=s2.heap.push {cls:=.type "slice",data:=.fields #[.none,.none,.int (-1) tk]}}
 refine tail_any (ops:=[.ref a,.ref s2.heap.objs.size]) ht.typeIs bz.lookup ?_ (by with_unfolding_all rfl)
 refine a1c (tk:=tk) ht (aA _ rfl) rfl rfl ?_ (by rw [hlen];exact hz)
 refine⟨.ref _,_,I4.laid (t':=s2.toks) (o:=.tup xs.reverse) (fun b ob q=> aj _ q) (au _) ?_,rfl,q _ _ ⟨I4.hok.fresh (au _),rfl⟩⟩
 exact⟨by rw [mE];exact hz,_,avx rv,ael.new _ _⟩
end
end L2
namespace L2
open PySem PySem.Spec PyProof.Rows PyProof.Rows.KTD
structure TabF (K:am) (d:Addr) (D:List (Str×Str)):Prop where
 tab: ∀h:Heap,K.In h -> TabOf (fun y v=> bA K aV y=some (some v)) h d D
 refs: ∀k y,datumAt k D=some y -> ∃f:Addr,bA K aV y=some (some (.ref f))
def a9l(X:Cx)(f:Addr)(σ:St)(vs:List V)(H:Hp)(Q:VK):Prop:= ∀(pins:List (Addr×Obj)) (s:ak) (us:List af),Inv X pins σ H s -> jm vs us -> wpAny (model X.prog X.w) X.A (call (.ref f) us) (EP X pins σ Q) X.xe s
end L2
namespace PF
open PySem PySem.Spec
open L2
inductive D where
 |da (d:ag)|con (ds:List ag)|frz (ds:List ag)|set (ds:List ag)
 |ref (n:Nat)|fn (x:Str)|tabF (T:List (Str×Str))|ty (n:String)
abbrev D.non:D:=.da .none
abbrev D.bl(b:Bool):D:=.da (.bool b)
abbrev D.int(i:Int):D:=.da (.int i)
abbrev D.str(x:Str):D:=.da (.str x)
abbrev D.tup(ds:List ag):D:=.da (.tuple ds)
abbrev D.lst(ds:List ag):D:=.da (.list ds)
inductive O where
 |lst (ds:List D)|dct (kvs:List (ag×D))|set (ds:List D)|ins (C:Str) (fs:List (Str×D))|exc (C:Str) (fs:List (Str×D))|xcx (C:Str) (fs:List (Str×D))|gone
abbrev S:=List O
abbrev En:=List (Option D)
inductive R (α:Type) where
 |ok (a:α) (s:S)
 |bad
 /-- the exception at n was raised,where the names stood as ρ tells -/
 |ex (n:Nat) (ρ:En) (s:S)
noncomputable def R.bind{α β:Type}(r:R α)(f:α -> S -> R β):R β:=match r with
 |.ok a s=> f a s
 |.bad=>.bad
 |.ex n ρ s=>.ex n ρ s
noncomputable def R.calm{α:Type}(r:R α):R α:=match r with
 |.ok a s=>.ok a s
 |.bad=>.bad
 |.ex _ _ _=>.bad
noncomputable def R.at{α:Type}(r:R α)(ρ:En):R α:=match r with
 |.ok a s=>.ok a s
 |.bad=>.bad
 |.ex n _ s=>.ex n ρ s
theorem R.calm_ok{α:Type}(a:α)(s:S):(R.ok a s).calm=.ok a s:=rfl
theorem R.at_ok{α:Type}(a:α)(s:S)(ρ:En):(R.ok a s).at ρ=.ok a s:=rfl
theorem R.bind_ok{α β:Type}(a:α)(s:S)(f:α -> S -> R β):(R.ok a s).bind f=f a s:=rfl
def R.W{α:Type}(r:R α)(Q:α -> S -> Prop):Prop:=match r with
 |.ok a s=> Q a s
 |.bad=> False
 |.ex _ _ _=> False
theorem R.W_calm{α:Type}(r:R α)(Q:α -> S -> Prop):r.calm.W Q=r.W Q:=by cases r <;> rfl
theorem R.W_at{α:Type}(r:R α)(ρ:En)(Q:α -> S -> Prop):(r.at ρ).W Q=r.W Q:=by cases r <;> rfl
theorem R.W_ok{α:Type}(a:α)(s:S)(Q:α -> S -> Prop):(R.ok a s).W Q=Q a s:=rfl
theorem R.W_bind{α β:Type}(r:R α)(f:α -> S -> R β)(Q:β -> S -> Prop):(r.bind f).W Q=r.W fun a s=> (f a s).W Q:=by cases r <;> rfl
theorem R.W_mono{α:Type}{r:R α}{Q Q':α -> S -> Prop}(h:r.W Q)(k: ∀a s,Q a s -> Q' a s):r.W Q':=by
 cases r with
 |ok a s=> exact k a s h
 |bad=> exact h
 |ex n ρ s=> exact h
structure As where
 ix:List (Option Addr)
 hd:List Addr
def As.has(as:As)(p:Addr):Prop:=some p∈as.ix\/p∈as.hd
abbrev As.add(as:As)(p:Addr):As:={as with ix:=as.ix++ [some p]}
abbrev As.cut(as:As)(n:Nat):As:={as with ix:=as.ix.set n none}
abbrev As.hide(as:As)(p:Addr):As:={as with hd:=p::as.hd}
abbrev As.show(as:As)(p:Addr):As:={as with hd:=as.hd.filter fun q=> decide (q≠p)}
structure Step0 (as:As) (H:Hp) (as':As) (H':Hp):Prop where
 len:as.ix.length <=as'.ix.length
 old: ∀n:Nat,n < as.ix.length -> as'.ix[n]?=as.ix[n]?\/as'.ix[n]?=some none
 back: ∀p,as'.has p -> as.has p\/H p=none
 keep: ∀b o,¬as.has b -> H b=some o -> H' b=some o
 dom: ∀b,H b≠none -> H' b≠none
structure Step (as:As) (H:Hp) (as':As) (H':Hp):Prop extends Step0 as H as' H' where
 hk: ∀p∈as.hd,p∈as'.hd
 hh: ∀p∈as.hd,∀o,H p=some o -> H' p=some o
theorem Step.refl(as:As)(H:Hp):Step as H as H where
 len:=au _
 old _ _:=.inl rfl
 back _ h:=.inl h
 keep _ _ _ e:=e
 dom _ e:=e
 hk _ h:=h
 hh _ _ _ e:=e
theorem qk{as:As}:some p∈as.ix ↔ ∃n:Nat,as.ix[n]?=some (some p):=by
 rw [hJ]
theorem Step0.out{as as':As}(st:Step0 as H as' H'){b:Addr}(n: ¬as.has b)(e:H b=some o): ¬as'.has b:=fun m=> by
 rcases st.back b m with q|q
 ·exact n q
 ·rw [e]at q;cases q
theorem Step0.trans{as as1 as2:As}{H1 H2:Hp}(a:Step0 as H as1 H1)(b:Step0 as1 H1 as2 H2):Step0 as H as2 H2 where
 len:=aH a.len b.len
 old n hn:=by
  rcases b.old n (aU hn a.len) with q|q
  ·rw [q];exact a.old n hn
  ·exact .inr q
 back p h:=by
  rcases b.back p h with q|q
  ·exact a.back p q
  ·right
   cases z:H p with
   |none=> rfl
   |some o=> exact absurd q (a.dom p (by rw [z];simp))
 keep b' o n e:=b.keep b' o (a.out n e) (a.keep b' o n e)
 dom b' e:=b.dom b' (a.dom b' e)
theorem Step.trans{as as1 as2:As}{H1 H2:Hp}(a:Step as H as1 H1)(b:Step as1 H1 as2 H2):Step as H as2 H2:=⟨a.toStep0.trans b.toStep0,fun p h=> b.hk p (a.hk p h),fun p h o e=> b.hh p (a.hk p h) o (a.hh p h o e)⟩
mutual
inductive TD (as:As) (H:Hp):V -> ag -> Prop
 |non:TD as H .non .none
 |bl (b:Bool):TD as H (.bl b) (.bool b)
 |int (i:Int):TD as H (.int i) (.int i)
 |str (x:Str):TD as H (.str x) (.str x)
 |tup {p:Addr} {xs:List V} {ds:List ag}: ¬as.has p -> H p=some (.tup xs) -> TDs as H xs ds -> TD as H (.ref p) (.tuple ds)
 |lst {p:Addr} {xs:List V} {ds:List ag}: ¬as.has p -> H p=some (.lst xs) -> TDs as H xs ds -> TD as H (.ref p) (.list ds)
 |dct {p:Addr}: ¬as.has p -> H p=some (.dK []) -> TD as H (.ref p) (.dict [])
 |dc1 {p:Addr} {i:Int} {v:V} {d:ag}: ¬as.has p -> H p=some (.dK [(.inl i,v)]) -> TD as H v d -> TD as H (.ref p) (.dict [(.int i,d)])
inductive TDs (as:As) (H:Hp):List V -> List ag -> Prop
 |nil:TDs as H [] []
 |cons {x:V} {xs:List V} {d:ag} {ds:List ag}:TD as H x d -> TDs as H xs ds -> TDs as H (x::xs) (d::ds)
end
inductive RD (K:am) (as:As) (H:Hp):V -> D -> Prop
 |da {v:V} {d:ag}:TD as H v d -> RD K as H v (.da d)
 |ty (n:String):RD K as H (.ty n) (.ty n)
 |fn {f:Addr} {x:Str}:bA K aV x=some (some (.ref f)) -> RD K as H (.ref f) (.fn x)
 |tabF {d:Addr} {T:List (Str×Str)}:TabF K d T -> RD K as H (.ref d) (.tabF T)
 |con {p:Addr} {xs:List V} {ds:List ag}:(∀H',SqT K H' p xs) -> TDs as H xs ds -> RD K as H (.ref p) (.con ds)
 |frz {p:Addr} {xs:List V} {ds:List ag}:(∀as' H',Step0 as H as' H' -> SqL K H' p xs) -> TDs as H xs ds -> RD K as H (.ref p) (.frz ds)
 |ref {p:Addr} {n:Nat}:n < as.ix.length -> (∀q,as.ix[n]?=some (some q) -> q=p) -> RD K as H (.ref p) (.ref n)
inductive RDs (K:am) (as:As) (H:Hp):List V -> List D -> Prop
 |nil:RDs K as H [] []
 |cons {x:V} {xs:List V} {d:D} {ds:List D}:RD K as H x d -> RDs K as H xs ds -> RDs K as H (x::xs) (d::ds)
noncomputable def kP:Key -> ag
 |.inl i=>.int i
 |.inr x=>.str x
def isT:ag -> Bool
 |.tuple xs=> ail (.tuple xs)
 |_=> false
inductive DRs (K:am) (as:As) (H:Hp):List (ag×V) -> List (ag×D) -> Prop
 |nil:DRs K as H [] []
 |cons {k:ag} {v:V} {d:D} {l:List (ag×V)} {kvs:List (ag×D)}:RD K as H v d -> DRs K as H l kvs -> DRs K as H ((k,v)::l) ((k,d)::kvs)
inductive FRs (K:am) (as:As) (H:Hp):List (Str×V) -> List (Str×D) -> Prop
 |nil:FRs K as H [] []
 |cons {f:Str} {v:V} {d:D} {l:List (Str×V)} {fs:List (Str×D)}:RD K as H v d -> FRs K as H l fs -> FRs K as H ((f,v)::l) ((f,d)::fs)
def pvK(l:List (Key×V)):List (ag×V):=l.map fun e=> (kP e.1,e.2)
def RO(K:am)(as:As)(H:Hp)(p:Addr):O -> Prop
 |.lst ds=> ∃xs,H p=some (.lst xs)/\RDs K as H xs ds
 |.dct kvs=> (∃l:List (Key×V),H p=some (.dK l)/\DRs K as H (pvK l) kvs)\/ ∃l:List (ag×V),(l≠ []/\(l.all fun e=> isT e.1)=true)/\H p=some (.dD l)/\DRs K as H l kvs
 |.ins C fs=> ∃(Ca dx:Addr) (gs:List (Str×V)),bA K aV C=some (some (.ref Ca))/\H p=some (.ins Ca dx gs)/\FRs K as H gs fs
 |.exc C fs=> ∃(Ca:Addr) (gs:List (Str×V)),bA K aV C=some (some (.ref Ca))/\H p=some (.exn Ca gs)/\FRs K as H gs fs
 |.xcx C fs=> ∃(Ca:Addr) (gs:List (Str×V)),bA K aV C=some (some (.ref Ca))/\H p=some (.exx Ca gs)/\FRs K as H gs fs
 |_=> False
structure Rel (K:am) (as:As) (H:Hp) (s:S):Prop where
 len:as.ix.length=s.length
 nd: ∀(i j:Nat) (p:Addr),as.ix[i]?=some (some p) -> as.ix[j]?=some (some p) -> i=j
 ob: ∀(n:Nat) (p:Addr) (o:O),as.ix[n]?=some (some p) -> s[n]?=some o -> RO K as H p o
 li: ∀(n:Nat) (o:O),s[n]?=some o -> o≠ .gone -> ∃p,as.ix[n]?=some (some p)
 hs: ∀p∈as.hd,∃xs,H p=some (.lst xs)
 hx: ∀p∈as.hd,some p∉as.ix
mutual
theorem TD.mono0{as as':As}{H H':Hp}(st:Step0 as H as' H'): ∀{v:V} {d:ag},TD as H v d -> TD as' H' v d
 |_,_,.non=>.non
 |_,_,.bl b=>.bl b
 |_,_,.int i=>.int i
 |_,_,.str x=>.str x
 |_,_,.tup n e r=>.tup (st.out n e) (st.keep _ _ n e) (TDs.mono0 st r)
 |_,_,.lst n e r=>.lst (st.out n e) (st.keep _ _ n e) (TDs.mono0 st r)
 |_,_,.dct n e=>.dct (st.out n e) (st.keep _ _ n e)
 |_,_,.dc1 n e t=>.dc1 (st.out n e) (st.keep _ _ n e) (TD.mono0 st t)
theorem TDs.mono0{as as':As}{H H':Hp}(st:Step0 as H as' H'): ∀{vs:List V} {ds:List ag},TDs as H vs ds -> TDs as' H' vs ds
 |_,_,.nil=>.nil
 |_,_,.cons a r=>.cons (TD.mono0 st a) (TDs.mono0 st r)
end
theorem RD.mono0{as as':As}(st:Step0 as H as' H'){d:D}(h:RD K as H v d):RD K as' H' v d:=by
 cases h with
 |da t=> exact .da (t.mono0 st)
 |ty n=> exact .ty n
 |fn a=> exact .fn a
 |tabF a=> exact .tabF a
 |con h r=> exact .con h (r.mono0 st)
 |frz h r=> exact .frz (fun as' H' s2=> h as' H' (st.trans s2)) (r.mono0 st)
 |ref l h=>
  refine .ref (aU l st.len) fun q e=> ?_
  rcases st.old _ l with z|z
  ·rw [z]at e;exact h q e
  ·rw [z]at e;cases e
theorem RDs.mono0{K:am}{as as':As}{H H':Hp}(st:Step0 as H as' H'): ∀{vs:List V} {ds:List D},RDs K as H vs ds -> RDs K as' H' vs ds
 |_,_,.nil=>.nil
 |_,_,.cons a r=>.cons (RD.mono0 st a) (RDs.mono0 st r)
theorem FRs.mono0{K:am}{as as':As}{H H':Hp}(st:Step0 as H as' H'): ∀{l:List (Str×V)} {fs:List (Str×D)},FRs K as H l fs -> FRs K as' H' l fs
 |_,_,.nil=>.nil
 |_,_,.cons a r=>.cons (a.mono0 st) (FRs.mono0 st r)
theorem DRs.mono0{K:am}{as as':As}{H H':Hp}(st:Step0 as H as' H'): ∀{l:List (ag×V)} {kvs:List (ag×D)},DRs K as H l kvs -> DRs K as' H' l kvs
 |_,_,.nil=>.nil
 |_,_,.cons a r=>.cons (RD.mono0 st a) (DRs.mono0 st r)
theorem TD.mono{as as':As}(st:Step as H as' H'){d:ag}(h:TD as H v d):TD as' H' v d:=h.mono0 st.toStep0
theorem TDs.mono{as as':As}(st:Step as H as' H'){v:List V}{d:List ag}(h:TDs as H v d):TDs as' H' v d:=h.mono0 st.toStep0
theorem RD.mono{as as':As}(st:Step as H as' H'){d:D}(h:RD K as H v d):RD K as' H' v d:=h.mono0 st.toStep0
theorem RDs.mono{as as':As}(st:Step as H as' H'){v:List V}{d:List D}(h:RDs K as H v d):RDs K as' H' v d:=h.mono0 st.toStep0
section
variable{K:am}{as:As}{H:Hp}
theorem RDs.length: ∀{vs:List V} {ds:List D},RDs K as H vs ds -> vs.length=ds.length
 |_,_,.nil=> rfl
 |_,_,.cons _ r=> congrArg (· +1) (RDs.length r)
theorem RDs.append: ∀{vs ws:List V} {ds es:List D},RDs K as H vs ds -> RDs K as H ws es -> RDs K as H (vs++ws) (ds++es)
 |_,_,_,_,.nil,s=> s
 |_,_,_,_,.cons a r,s=>.cons a (RDs.append r s)
theorem RDs.get: ∀{vs:List V} {ds:List D} {i:Nat} {d:D},RDs K as H vs ds -> ds[i]?=some d -> ∃v,vs[i]?=some v/\RD K as H v d
 |_,_,_,_,.nil,e=> by simp at e
 |_,_,0,_,.cons a _,e=> by simp at e;subst e;exact⟨_,rfl,a⟩
 |_,_,i+1,d,.cons _ r,e=> by
  obtain⟨v,h1,h2⟩:=RDs.get (i:=i) (d:=d) r (by simpa using e)
  exact⟨v,by simpa using h1,h2⟩
theorem RDs.set: ∀{vs:List V} {ds:List D} (i:Nat) {v:V} {d:D},RD K as H v d -> RDs K as H vs ds -> RDs K as H (vs.set i v) (ds.set i d)
 |_,_,_,_,_,_,.nil=>.nil
 |_,_,0,_,_,r,.cons _ t=>.cons r t
 |_,_,i+1,_,_,r,.cons q t=>.cons q (RDs.set i r t)
theorem RDs.take: ∀{vs:List V} {ds:List D} (n:Nat),RDs K as H vs ds -> RDs K as H (vs.take n) (ds.take n)
 |_,_,0,_=>.nil
 |_,_,_+1,.nil=>.nil
 |_,_,n+1,.cons r t=>.cons r (RDs.take n t)
theorem RDs.drop: ∀{vs:List V} {ds:List D} (n:Nat),RDs K as H vs ds -> RDs K as H (vs.drop n) (ds.drop n)
 |_,_,0,r=> r
 |_,_,_+1,.nil=>.nil
 |_,_,n+1,.cons _ t=> RDs.drop n t
theorem RDs.eraseIdx: ∀{vs:List V} {ds:List D} (n:Nat),RDs K as H vs ds -> RDs K as H (vs.eraseIdx n) (ds.eraseIdx n)
 |_,_,_,.nil=>.nil
 |_,_,0,.cons _ t=> t
 |_,_,n+1,.cons r t=>.cons r (RDs.eraseIdx n t)
end
section
variable{as:As}{H:Hp}
theorem TDs.length: ∀{vs:List V} {ds:List ag},TDs as H vs ds -> vs.length=ds.length
 |_,_,.nil=> rfl
 |_,_,.cons _ r=> congrArg (· +1) (TDs.length r)
theorem TDs.append: ∀{vs ws:List V} {ds es:List ag},TDs as H vs ds -> TDs as H ws es -> TDs as H (vs++ws) (ds++es)
 |_,_,_,_,.nil,s=> s
 |_,_,_,_,.cons a r,s=>.cons a (TDs.append r s)
theorem TDs.get: ∀{vs:List V} {ds:List ag} {i:Nat} {d:ag},TDs as H vs ds -> ds[i]?=some d -> ∃v,vs[i]?=some v/\TD as H v d
 |_,_,_,_,.nil,e=> by simp at e
 |_,_,0,_,.cons a _,e=> by simp at e;subst e;exact⟨_,rfl,a⟩
 |_,_,i+1,d,.cons _ r,e=> by
  obtain⟨v,h1,h2⟩:=TDs.get (i:=i) (d:=d) r (by simpa using e)
  exact⟨v,by simpa using h1,h2⟩
theorem TDs.take: ∀{vs:List V} {ds:List ag} (n:Nat),TDs as H vs ds -> TDs as H (vs.take n) (ds.take n)
 |_,_,0,_=>.nil
 |_,_,_+1,.nil=>.nil
 |_,_,n+1,.cons r t=>.cons r (TDs.take n t)
theorem TDs.drop: ∀{vs:List V} {ds:List ag} (n:Nat),TDs as H vs ds -> TDs as H (vs.drop n) (ds.drop n)
 |_,_,0,r=> r
 |_,_,_+1,.nil=>.nil
 |_,_,n+1,.cons _ t=> TDs.drop n t
theorem TDs.reverse: ∀{vs:List V} {ds:List ag},TDs as H vs ds -> TDs as H vs.reverse ds.reverse
 |_,_,.nil=>.nil
 |_,_,.cons a r=> by rw [fw,fw];exact (TDs.reverse r).append (.cons a .nil)
end
theorem TDs.rd{K:am}{as:As}{H:Hp}: ∀{vs:List V} {ds:List ag},TDs as H vs ds -> RDs K as H vs (ds.map D.da)
 |_,_,.nil=>.nil
 |_,_,.cons a r=>.cons (.da a) (TDs.rd r)
noncomputable def kq:List D -> Option (List ag)
 |[]=> some []
 |.da d::r=> match kq r with
  |some ds=> some (d::ds)
  |none=> none
 |_=> none
theorem qw: ∀ds:List ag,kq (ds.map D.da)=some ds
 |[]=> rfl
 |d::r=> by rw [aP,kq,qw r]
theorem zr: ∀{ds:List D} {xs:List ag},kq ds=some xs -> ds=xs.map D.da
 |[],xs,h=> by cases h;rfl
 |.da d::r,xs,h=> by
  rw [kq]at h
  cases q:kq r with
  |none=> rw [q]at h;cases h
  |some ys=> rw [q]at h;cases h;rw [zr q];rfl
 |.con _::_,_,h=> by cases h
 |.frz _::_,_,h=> by cases h
 |.set _::_,_,h=> by cases h
 |.ref _::_,_,h=> by cases h
 |.fn _::_,_,h=> by cases h
 |.tabF _::_,_,h=> by cases h
 |.ty _::_,_,h=> by cases h
theorem RDs.td{K:am}{as:As}{H:Hp}: ∀{vs:List V} {ds:List ag},RDs K as H vs (ds.map D.da) -> TDs as H vs ds
 |_,[],h=> by cases h;exact .nil
 |_,d::r,h=> by
  cases h with
  |cons a b=> cases a with|da a=> exact .cons a (RDs.td b)
theorem ajb{b:Addr}(n:New H p o H')(e:H b≠none):H' b≠none:=by
 cases q:H b with
 |none=> exact absurd q e
 |some u=> rw [n.keep q];simp
theorem j6{as:As}(n:New H p o H'):Step as H as H' where
 len:=au _
 old _ _:=.inl rfl
 back _ h:=.inl h
 keep _ _ _ e:=n.keep e
 dom _ e:=ajb n e
 hk _ h:=h
 hh _ _ _ e:=n.keep e
theorem xg{α:Type}{l:List α}{x y:α}(e:(l++ [x])[i]?=some y):(i < l.length/\l[i]?=some y)\/(i=l.length/\y=x):=by
 by_cases h:i < l.length
 ·rw [bq h]at e;exact .inl ⟨h,e⟩
 ·have h2:i - l.length=0\/1 <=i - l.length:=by lia
  rw [cv (cM h)]at e
  rcases h2 with z|z
  ·rw [z]at e
   simp at e
   exact .inr ⟨by lia,e.symm⟩
  ·rw [dv.mpr (by simpa using z)]at e
   cases e
theorem aq7{as:As}{q:Addr}(h:(as.add p).has q):as.has q\/q=p:=by
 rcases h with h|h
 ·rcases bI.mp h with z|z
  ·exact .inl (.inl z)
  ·exact .inr (by simpa using z)
 ·exact .inl (.inr h)
theorem ad1{as:As}(n:New H p o H'):Step as H (as.add p) H' where
 len:=by simp
 old i h:=.inl (bq h)
 back q h:=by
  rcases aq7 h with z|z
  ·exact .inl z
  ·subst z;exact .inr n.no
 keep _ _ _ e:=n.keep e
 dom _ e:=ajb n e
 hk _ h:=h
 hh _ _ _ e:=n.keep e
theorem abg{as:As}(m:as.has p)(c:Chg H p o H'):Step0 as H as H' where
 len:=au _
 old _ _:=.inl rfl
 back _ h:=.inl h
 keep b u n e:=c.keep (fun z=> n (z▸m)) e
 dom b e:=by
  by_cases z:b=p
  ·subst z;rw [c.at];simp
  ·cases q:H b with
   |none=> exact absurd q e
   |some u=> rw [c.keep z q];simp
theorem ahr{as:As}(m:some p∈as.ix)(nh:p∉as.hd)(c:Chg H p o H'):Step as H as H':=⟨abg (.inl m) c,fun _ h=> h,fun q h u e=> c.keep (fun z=> nh (z▸h)) e⟩
theorem ay8{as as2:As}{H1 H2:Hp}(st:Step as H as2 H1)(no:H p=none)(nh:p∉as.hd)(m:p∈as2.hd)(c:Chg H1 p o H2):Step as H as2 H2:=
 ⟨⟨st.len,st.old,st.back,fun b u n e=> c.keep (xw e no) (st.keep b u n e),fun b e=> (abg (.inr m) c).dom b (st.dom b e)⟩,st.hk,fun q h u e=> c.keep (fun z=> nh (z▸h)) (st.hh q h u e)⟩
theorem air{as:As}{q:Addr}(e:(as.cut n).ix[i]?=some (some q)):as.ix[i]?=some (some q):=by
 by_cases z:n=i
 ·subst z
  rw [dG]at e
  simp at e
 ·rw [a8 z]at e;exact e
theorem ah9{as:As}(n:Nat):Step as H (as.cut n) H where
 len:=by simp
 old i h:=by
  by_cases z:n=i
  ·subst z;right;simp [h]
  ·left;rw [a8 z]
 back p h:=by
  rcases h with h|h
  ·obtain⟨i,hi⟩:=qk.mp h
   exact .inl (.inl (qk.mpr ⟨i,air hi⟩))
  ·exact .inl (.inr h)
 keep _ _ _ e:=e
 dom _ e:=e
 hk _ h:=h
 hh _ _ _ e:=e
theorem akf{as:As}(n:New H p o H'):Step as H (as.hide p) H' where
 len:=au _
 old _ _:=.inl rfl
 back q h:=by
  rcases h with h|h
  ·exact .inl (.inl h)
  ·rcases aw.mp h with z|z
   ·subst z;exact .inr n.no
   ·exact .inl (.inr z)
 keep _ _ _ e:=n.keep e
 dom _ e:=ajb n e
 hk _ h:=az _ h
 hh _ _ _ e:=n.keep e
theorem amd{as:As}{q:Addr}(h:(as.show p).has q):as.has q:=by
 rcases h with h|h
 ·exact .inl h
 ·exact .inr (bU.mp h).1
theorem afu{as:As}:Step0 as H (as.show p) H where
 len:=au _
 old _ _:=.inl rfl
 back q h:=.inl (amd h)
 keep _ _ _ e:=e
 dom _ e:=e
theorem afp{as:As}(m:p∈as.hd):Step0 as H ((as.show p).add p) H where
 len:=by simp
 old i h:=.inl (bq h)
 back q h:=by
  rcases aq7 h with z|z
  ·exact .inl (amd z)
  ·subst z;exact .inl (.inr m)
 keep _ _ _ e:=e
 dom _ e:=e
theorem axh{as as2:As}{H2:Hp}(st:Step as H as2 H2)(nh:p∉as.hd)(st2:Step0 as2 H2 (as2.show p) H2):Step as H (as2.show p) H2:=
 ⟨st.toStep0.trans st2,fun q h=> bU.mpr ⟨st.hk q h,by
  have:q≠p:=fun z=> nh (z▸h)
  simp [this]⟩,st.hh⟩
theorem avc{as as2:As}{H2:Hp}(st:Step as H as2 H2)(nh:p∉as.hd)(m:p∈as2.hd):Step as H ((as2.show p).add p) H2:=
 ⟨st.toStep0.trans (afp m),fun q h=> bU.mpr ⟨st.hk q h,by
  have:q≠p:=fun z=> nh (z▸h)
  simp [this]⟩,st.hh⟩
section
variable{K:am}{as as':As}{H H':Hp}{s:S}{p:Addr}
theorem RO.mono0(st:Step0 as H as' H'){o:O}(e:H' p=H p)(h:RO K as H p o):RO K as' H' p o:=by
 cases o with
 |lst ds=>
  obtain⟨xs,e1,r⟩:=h
  exact⟨xs,e.trans e1,r.mono0 st⟩
 |dct kvs=>
  rcases h with ⟨l,e1,r⟩|⟨l,e0,e1,r⟩
  ·exact .inl ⟨l,e.trans e1,r.mono0 st⟩
  ·exact .inr ⟨l,e0,e.trans e1,r.mono0 st⟩
 |ins C fs=>
  obtain⟨Ca,dx,gs,e0,e1,r⟩:=h
  exact⟨Ca,dx,gs,e0,e.trans e1,r.mono0 st⟩
 |exc C fs=>
  obtain⟨Ca,gs,e0,e1,r⟩:=h
  exact⟨Ca,gs,e0,e.trans e1,r.mono0 st⟩
 |xcx C fs=>
  obtain⟨Ca,gs,e0,e1,r⟩:=h
  exact⟨Ca,gs,e0,e.trans e1,r.mono0 st⟩
 |_=> exact h.elim
theorem RO.some{o:O}(h:RO K as H p o):H p≠none:=by
 cases o with
 |lst ds=>
  obtain⟨xs,e1,r⟩:=h
  rw [e1];simp
 |dct kvs=>
  rcases h with ⟨l,e1,r⟩|⟨l,e0,e1,r⟩ <;> (rw [e1];simp)
 |ins C fs=>
  obtain⟨Ca,dx,gs,e0,e1,r⟩:=h
  rw [e1];simp
 |exc C fs=>
  obtain⟨Ca,gs,e0,e1,r⟩:=h
  rw [e1];simp
 |xcx C fs=>
  obtain⟨Ca,gs,e0,e1,r⟩:=h
  rw [e1];simp
 |_=> exact h.elim
theorem Rel.at(r:Rel K as H s)(e:as.ix[n]?=some (some p)):H p≠none:=by
 have hl:n < s.length:=by
  rw [←r.len]
  exact (aE.mp e).1
 exact (r.ob n p _ e (ar hl)).some
theorem Rel.has(r:Rel K as H s)(h:as.has p):H p≠none:=by
 rcases h with h|h
 ·obtain⟨i,hi⟩:=qk.mp h
  exact r.at hi
 ·obtain⟨xs,e⟩:=r.hs p h
  rw [e];simp
theorem adg{q:Addr}(k: ∀o,H q=some o -> H' q=some o)(h:H q≠none):H' q=H q:=by
 cases z:H q with
 |none=> exact absurd z h
 |some x=> rw [k x z]
theorem Rel.new(r:Rel K as H s)(n:New H p o H'):Rel K as H' s where
 len:=r.len
 nd:=r.nd
 ob i q u e1 e2:=(r.ob i q u e1 e2).mono0 (j6 n).toStep0 (adg (fun _=> n.keep) (r.at e1))
 li:=r.li
 hs q h:=let ⟨xs,e⟩:=r.hs q h;⟨xs,n.keep e⟩
 hx:=r.hx
theorem Rel.laid{u:O}(r:Rel K as H s)(n:New H p o H')(h:RO K (as.add p) H' p u):Rel K (as.add p) H' (s++ [u]) where
 len:=by simp [r.len]
 nd i j q e1 e2:=by
  rcases xg e1 with ⟨l1,z1⟩|⟨l1,z1⟩ <;> rcases xg e2 with ⟨l2,z2⟩|⟨l2,z2⟩
  ·exact r.nd i j q z1 z2
  ·cases z2;exact absurd n.no (r.at z1)
  ·cases z1;exact absurd n.no (r.at z2)
  ·rw [l1,l2]
 ob i q x e1 e2:=by
  rcases xg e1 with ⟨l1,z1⟩|⟨l1,z1⟩ <;> rcases xg e2 with ⟨l2,z2⟩|⟨l2,z2⟩
  ·exact (r.ob i q x z1 z2).mono0 (ad1 n).toStep0 (adg (fun _=> n.keep) (r.at z1))
  ·rw [l2,←r.len]at l1;exact absurd l1 (cO _)
  ·rw [l1,r.len]at l2;exact absurd l2 (cO _)
  ·cases z1;subst z2;exact h
 li i x e g:=by
  rcases xg e with ⟨l1,z1⟩|⟨l1,z1⟩
  ·obtain⟨q,hq⟩:=r.li i x z1 g
   exact⟨q,by rw [bq (by rw [r.len];exact l1)];exact hq⟩
  ·exact⟨p,by rw [l1,←r.len];simp⟩
 hs q h:=let ⟨xs,e⟩:=r.hs q h;⟨xs,n.keep e⟩
 hx q h m:=by
  rcases bI.mp m with z|z
  ·exact r.hx q h z
  ·have:q=p:=by simpa using z
   subst this
   obtain⟨xs,e⟩:=r.hs q h
   rw [n.no]at e;cases e
theorem Rel.chg{u:O}(r:Rel K as H s)(e:as.ix[n]?=some (some p))(c:Chg H p o H')(h:RO K as H' p u):Rel K as H' (s.set n u) where
 len:=by simp [r.len]
 nd:=r.nd
 ob i q x e1 e2:=by
  by_cases z:n=i
  ·subst z
   rw [e]at e1;cases e1
   have hl:n < s.length:=by rw [←r.len];exact (aE.mp e).1
   rw [bN hl]at e2
   cases e2;exact h
  ·rw [a8 z]at e2
   have ne:q≠p:=fun w=> z (r.nd n i p e (w▸e1))
   exact (r.ob i q x e1 e2).mono0 (abg (.inl (qk.mpr ⟨n,e⟩)) c) (adg (fun _=> c.keep ne) (r.at e1))
 li i x e2 g:=by
  by_cases z:n=i
  ·subst z;exact⟨p,e⟩
  ·rw [a8 z]at e2
   exact r.li i x e2 g
 hs q h:=let ⟨xs,e'⟩:=r.hs q h;⟨xs,c.keep (fun z=> r.hx q h (qk.mpr ⟨n,z▸e⟩)) e'⟩
 hx:=r.hx
theorem Rel.chgH(r:Rel K as H s)(m:p∈as.hd)(c:Chg H p (.lst ys) H'):Rel K as H' s where
 len:=r.len
 nd:=r.nd
 ob i q x e1 e2:=by
  have ne:q≠p:=fun w=> r.hx p m (qk.mpr ⟨i,w▸e1⟩)
  exact (r.ob i q x e1 e2).mono0 (abg (.inr m) c) (adg (fun _=> c.keep ne) (r.at e1))
 li:=r.li
 hs q h:=by
  by_cases z:q=p
  ·subst z;exact⟨ys,c.at⟩
  ·obtain⟨xs,e⟩:=r.hs q h
   exact⟨xs,c.keep z e⟩
 hx:=r.hx
theorem Rel.hide(r:Rel K as H s)(n:New H p (.lst ys) H'):Rel K (as.hide p) H' s where
 len:=r.len
 nd:=r.nd
 ob i q u e1 e2:=(r.ob i q u e1 e2).mono0 (akf n).toStep0 (adg (fun _=> n.keep) (r.at e1))
 li:=r.li
 hs q h:=by
  rcases aw.mp h with z|z
  ·subst z;exact⟨ys,n.at⟩
  ·obtain⟨xs,e⟩:=r.hs q z
   exact⟨xs,n.keep e⟩
 hx q h m:=by
  rcases aw.mp h with z|z
  ·subst z
   obtain⟨i,hi⟩:=qk.mp m
   exact r.at hi n.no
  ·exact r.hx q z m
theorem Rel.show(r:Rel K as H s):Rel K (as.show p) H s where
 len:=r.len
 nd:=r.nd
 ob i q u e1 e2:=(r.ob i q u e1 e2).mono0 afu rfl
 li:=r.li
 hs q h:=r.hs q (bU.mp h).1
 hx q h:=r.hx q (bU.mp h).1
theorem Rel.take{u:O}(r:Rel K as H s)(m:p∈as.hd)(h:RO K ((as.show p).add p) H p u):Rel K ((as.show p).add p) H (s++ [u]) where
 len:=by simp [r.len]
 nd i j q e1 e2:=by
  rcases xg e1 with ⟨l1,z1⟩|⟨l1,z1⟩ <;> rcases xg e2 with ⟨l2,z2⟩|⟨l2,z2⟩
  ·exact r.nd i j q z1 z2
  ·cases z2;exact absurd (qk.mpr ⟨i,z1⟩) (r.hx p m)
  ·cases z1;exact absurd (qk.mpr ⟨j,z2⟩) (r.hx p m)
  ·rw [l1,l2]
 ob i q x e1 e2:=by
  rcases xg e1 with ⟨l1,z1⟩|⟨l1,z1⟩ <;> rcases xg e2 with ⟨l2,z2⟩|⟨l2,z2⟩
  ·exact (r.ob i q x z1 z2).mono0 (afp m) rfl
  ·rw [l2,←r.len]at l1;exact absurd l1 (cO _)
  ·rw [l1]at l2
   have:as.ix.length < s.length:=l2
   rw [r.len]at this;exact absurd this (cO _)
  ·cases z1;subst z2;exact h
 li i x e g:=by
  rcases xg e with ⟨l1,z1⟩|⟨l1,z1⟩
  ·obtain⟨q,hq⟩:=r.li i x z1 g
   exact⟨q,by rw [bq (by rw [r.len];exact l1)];exact hq⟩
  ·exact⟨p,by rw [l1,←r.len];simp⟩
 hs q h:=r.hs q (bU.mp h).1
 hx q h m2:=by
  obtain⟨h1,h2⟩:=bU.mp h
  rcases bI.mp m2 with z|z
  ·exact r.hx q h1 z
  ·have:q=p:=by simpa using z
   exact absurd this (of_decide_eq_true h2)
theorem Rel.frz(r:Rel K as H s):Rel K (as.cut n) H (s.set n .gone) where
 len:=by simp [r.len]
 nd i j q e1 e2:=by
  exact r.nd i j q (air e1) (air e2)
 ob i q x e1 e2:=by
  by_cases z:n=i
  ·subst z
   rw [dG]at e1
   simp at e1
  ·rw [a8 z]at e1 e2
   exact (r.ob i q x e1 e2).mono0 (ah9 n).toStep0 rfl
 li i x e2 g:=by
  by_cases z:n=i
  ·subst z
   rw [dG]at e2
   simp at e2
   exact absurd e2.2.symm g
  ·rw [a8 z]at e2⊢
   exact r.li i x e2 g
 hs:=r.hs
 hx q h m:=by
  obtain⟨i,hi⟩:=qk.mp m
  by_cases z:n=i
  ·subst z
   rw [dG]at hi
   simp at hi
  ·rw [a8 z]at hi
   exact r.hx q h (qk.mpr ⟨i,hi⟩)
end
end PF
namespace EX
open PySem PySem.W PySem.Spec PySem.Calls PyProof.Rows Builtin Builtin.ObjectAttr
abbrev bmV:List af:=[.type "ValueError",.type "Exception",.type "BaseException",.type "object"]
inductive Above:List af -> Prop
 |base:Above bmV
 |own (a:Addr) {l:List af}:Above l -> Above (.ref a::l)
theorem Above.has{b:Bool}(hb:bmV.contains (.type T)=b){l:List af}(x:Above l):l.contains (.type T)=b:=by
 induction x with
 |base=> exact hb
 |own a _ ih=> rw [cf,ih];rfl
theorem Above.refuse(self:af){l:List af}(x:Above l):refuseLoop self "__setattr__" l=pure ():=by
 induction x with
 |base=> exact PySem.F.store_ValueError.passes self
 |own a _ ih=> rw [refuseLoop_ref,ih]
structure ClsE (K:Frag) (C:Addr):Prop where
 at_: ∃nm q N bs bm sn sub ab col dd k0 k1 k2 k3 k5,K.lookup C=some (fk nm q C N bs bm true sn sub ab col dd k0 k1 k2 k3 k5 "ValueError.__new__")/\Above bm
 ga:findIn K (.ref C) "__getattribute__"=some (some (.builtin "BaseException.__getattribute__"))
 gt:findIn K (.ref C) "__getattr__"=some none
 sa:findIn K (.ref C) "__setattr__"=some (some (.builtin "object.__setattr__"))
section
variable{K:Frag}{C:Addr}
theorem ClsE.cd(c:ClsE K C): ∃cd,clsIn K C=some cd/\cd.hasDict=true/\ ∃bm,cd.mro=.ref C::bm/\Above bm:=by
 obtain⟨nm,q,N,bs,bm,sn,sub,ab,col,dd,k0,k1,k2,k3,k5,e,a⟩:=c.at_
 exact⟨_,by unfold clsIn;rw [e],rfl,bm,rfl,a⟩
theorem ClsE.sub(c:ClsE K C){b:Bool}(hb:bmV.contains (.type T)=b):mroIn K C (.type T)=some b:=by
 obtain⟨cd,e,h,bm,em,a⟩:=c.cd
 unfold mroIn
 rw [e,fO,em,if_neg (by simp),cf,a.has hb];rfl
end
section
variable{prog:aT}{w:aX}{A:bj}{E:af -> ak -> Prop}{s:ak}{K:Frag}{x C:Addr}{ox:Obj}{od:Option Obj}{name:Str}
theorem aq0{tk:Tok}{v:af}{R:h8 -> ak -> Prop}(X:K.In s.heap)(I:InstAt s.heap x ox C od)(c:ClsE K C)(hn:findIn K (.ref C) name=some none)
  (h:wpAny (model prog w) A.in1 (storeInOwnDict (.ref x) (.ref C) (.str name tk) name v false)
   (fun fin s'=> match fin with|.done f=> R (.ok f) s'|.again c'=> c'.quiet=true/\codeAny (model prog w) A c' R s') (fun e s'=> R (.error e) s') s):
  codeAny (model prog w) A (.call (.builtin "object.__setattr__") ⟨[.ref x,.str name tk,v],[]⟩) R s:=by --
 (have SF:=PySem.F.store_object)
 obtain⟨cd,hc,hd,bm,em,ab⟩:=c.cd
 have sub:Looks (model prog w) s.heap (isInstance (.ref x) (.type "object")) true:=I.type.andThen (looks_mroIn X (c.sub (by decide+kernel)))
 (refine ic SF.slot.plain SF.entry (@check_slot (model prog w) _ _ s "object.__setattr__" "object" "__setattr__" (.ref x) [.str name tk,v] [] _ SF.kind SF.split sub (SF.args (.ref x) (.str name tk) v) ?_))
 (have hm:Looks (model prog w) s.heap (mroOf (.ref C)) cd.mro:=(looks_clsIn X hc).andThen .now)
 rw [osa_eq,refuse_eq]
 (refine ae (ae (I.type.here (ae (hm.here ?_)))))
 rw [em,refuseLoop_ref,ab.refuse]
 exact ah (ae (I.type.here (ae ((looks_findIn X hn).here (ae (ah h))))))
variable{dx t:Addr}{mA:Str -> Option af}{ns:List Str}{v:af}{Q:Unit -> ak -> Prop}
abbrev exO(C:Addr)(dx:Option Addr)(t:Addr):Obj:={cls:=.ref C,dict:=dx,data:=.fields #[.ref t,.none,.none,.none,.bool false,.none]}
theorem awn(hx:s.heap.get? x=some (exO C none t)):InstAt s.heap x (exO C none t) C none:=⟨hx,rfl,rfl,ek⟩
theorem set_some(X:K.In s.heap)(c:ClsE K C)(hn:findIn K (.ref C) name=some none)(hx:s.heap.get? x=some (exO C (some dx) t))(N:s.heap.Ns1 dx mA)(ne:dx≠x)
  (hw:fx mA ns) (hsz:ns.length <=sizeLine)
  (h: ∀h',h'.Ns1 dx (fun y=> if y=name then some v else mA y) -> bJ dx s.heap h' -> Q () {s with heap:=h',toks:=s.toks+2}):
  wpAny (model prog w) A (setAttr (.ref x) name v) Q E s:=by
 obtain⟨o,es,ep,e1,e2⟩:=id N
 have I:InstAt s.heap x (exO C (some dx) t) C (some o):=⟨hx,rfl,rfl,e1⟩
 obtain⟨cd,hc,hd,_⟩:=c.cd
 refine PySem.W.set_plain X I c.sa (aq0 (s:={s with toks:=s.toks+1}) X I c hn ?_)
 refine ae (ah (ae (ae (wpAny_loadPart hx (ae (fV.here (s:={s with toks:=s.toks+1}) (mF X hc) ?_))))))
 rw [hd]
 refine ah (a:=some dx) (ae (ah (ae ?_)))
 refine wpAny_nsSet1 (s:={s with toks:=s.toks+1}) N fun h' hn2 hs2=> ?_
 obtain⟨oD,esD,epD,hoD,hdD,hcD⟩:=hn2.count (fx.cons name v hw)
 refine ae (wpAny_lookBehind hoD (by rw [hdD];exact pastItsLine_dict (aH hcD (by rw [aQ];lia))) ?_)
 exact ah (h _ hn2 hs2)
theorem set_none(X:K.In s.heap)(c:ClsE K C)(hn:findIn K (.ref C) name=some none)(hx:s.heap.get? x=some (exO C none t))
  (h: ∀h',h'.get? x=some (exO C (some s.heap.objs.size) t) -> h'.Ns1 s.heap.objs.size (fun y=> if y=name then some v else none) -> (∀b o,b≠x -> s.heap.get? b=some o -> h'.get? b=some o) ->
   Q () {s with heap:=h',toks:=s.toks+2}):
  wpAny (model prog w) A (setAttr (.ref x) name v) Q E s:=by
 have I:=awn hx
 obtain⟨cd,hc,hd,_⟩:=c.cd
 refine PySem.W.set_plain X I c.sa (aq0 (s:={s with toks:=s.toks+1}) X I c hn ?_)
 refine ae (ah (ae (ae (wpAny_loadPart hx (ae (fV.here (s:={s with toks:=s.toks+1}) (mF X hc) ?_))))))
 rw [hd]
 have hx1:(s.heap.push {cls:=.type "dict",data:=.dict #[]}).get? x=some (exO C none t):=aj _ hx
 have hxs:x≠s.heap.objs.size:=aR (ay hx)
 refine ae (wpAny_alloc' (ae (wpAny_update' hx1 ?_)))
 refine ah (ae (ah (ae ?_)))
 have hgd:((s.heap.push {cls:=.type "dict",data:=.dict #[]}).update x fun o=> {cls:=o.cls,dict:=some s.heap.objs.size,data:=o.data,slots:=o.slots}).get? s.heap.objs.size
   =some {cls:=.type "dict",data:=.dict #[]}:=(iw _ _ _ _ hxs.symm).trans (Heap.get?_push_at rfl rfl)
 have hnd:((s.heap.push {cls:=.type "dict",data:=.dict #[]}).update x fun o=> {cls:=o.cls,dict:=some s.heap.objs.size,data:=o.data,slots:=o.slots}).Ns s.heap.objs.size (fun _=> none):=
  ⟨_,#[],_,hgd,rfl,fun e he=> absurd he (by simp),fun _=> rfl⟩ --
 refine wpAny_nsSet1 (Heap.Ns1.of_empty hnd) fun h' hn' hs=> ?_
 (obtain⟨oD,esD,epD,hoD,hdD,hcD⟩:=hn'.count (Within.cons name v Within.nil))
 (refine ae (wpAny_lookBehind hoD (by rw [hdD];exact pastItsLine_dict (aH hcD (by rw [aQ,dZ,sizeLine_eq];lia))) ?_))
 refine ah (h _ ?_ hn' fun b o hb e=> ?_)
 ·exact (hs.2 x hxs).trans (bK _ hx1 rfl)
 ·exact (hs.2 b (aR (ay e))).trans ((iw _ _ _ _ hb).trans (aj _ e))
end
section
variable{prog:aT}{w:aX}{A:bj}{E:af -> ak -> Prop}{h:Heap}{g:Array iz}{d:Drawn}{t:Nat}{os:OsState}
variable{nm q:Str}{C N:Addr}{bs bm:List af}{hdct:Bool}{sn:List Str}{sub:List af}{ab:Bool}{col:Option Bool}{dd:Option Addr}{k0 k1 k2 k3 k5:Option af}
theorem aoh(a:Above bm){e:Addr}{oe:Obj}{jt:List af}{Q:Unit -> ak -> Prop}(hC:h.get? C=some (fk nm q C N bs bm hdct sn sub ab col dd k0 k1 k2 k3 k5 "ValueError.__new__"))(he:h.get? e=some oe)(hcls:oe.cls=.ref C)(hq:Q () ⟨h,g,d,t,os⟩):
  wpAny M A (fP "ValueError.__init__" ⟨.ref e::jt,[]⟩) Q E ⟨h,g,d,t,os⟩:=by
 have F:=dj
 have hcB:(aS C::bm).contains (.type "ValueError")=true:=by rw [cf,a.has (T:="ValueError") (b:=true) (by decide+kernel),ii]
 have hshort:=F.noStar
 (simp only [fP,F.initKind,F.initSplit,F.initRow])
 repeat (first|(with_reducible refine cE he ?_;rw [hcls])|with_reducible refine cE hC ?_|(with_reducible refine dM hC ?_;rw [hcB])|wp_step) --
 refine gS ?_
 rw [show∀(a b:String) (n:Nat),Bind.check ⟨.positional,"*","ValueError",.self,[⟨"args",.varPos,false⟩]⟩ a b n (bM (fun x=> x.fst) ({pos:=aS e::jt}:Args).kw)=pure () from
  fun a b n=> check_star_args _ _ _ _ _ _] --
 exact ah hq
theorem init_exc(a:Above bm){e t0:Addr}{jt:List af}(hC:h.get? C=some (fk nm q C N bs bm hdct sn sub ab col dd k0 k1 k2 k3 k5 "ValueError.__new__"))(he:h.get? e=some (exO C dx t0))(hq: ∀h',h'.get? e=some (exO C dx h.objs.size) -> (∀b o,b≠e -> h.get? b=some o -> h'.get? b=some o) -> Q .none ⟨h',g,d,t,os⟩)(hrest:jt.length <=sizeLine):
  wpAny (model prog w) A (call (.builtin "ValueError.__init__") (.ref e::jt)) Q E ⟨h,g,d,t,os⟩:=by
 have F:=dj
 refine jM (ic F.init.plain F.initEntry (aoh a hC he rfl ?_))
 (unfold cJ.«BaseException.__init__»)
 dsimp only
 rw [if_neg (by simp)]
 (unfold newTuple Builtin.BaseException.bexcPut)
 have he1:=aj (h:=h) {cls:=.type "tuple",data:=.seq jt.toArray} he
 refine ae (bD (ae (ae (a7 (vs:= #[.ref t0,.none,.none,.none,.bool false,.none]) (x:=.ref t0) he1 rfl rfl (ae (cw (vs:= #[.ref t0,.none,.none,.none,.bool false,.none]) he1 rfl (by simp) ?_))))) (by show jt.toArray.size <=sizeLine;rw [ax];exact hrest))
 refine iM (ah (hq _ ?_ fun b o hb e'=> ?_))
 ·rw [bK _ he1 rfl]
  rfl
 ·rw [bO _ _ (cW hb)]
  exact aj _ e'
theorem aqh(a:Above bm){jt:List af}{Q:Unit -> ak -> Prop}(hC:h.get? C=some (fk nm q C N bs bm hdct sn sub ab col dd k0 k1 k2 k3 k5 "ValueError.__new__"))(hq:Q () ⟨h,g,d,t,os⟩):wpAny M A (fP "ValueError.__new__" ⟨.ref C::jt,[]⟩) Q E ⟨h,g,d,t,os⟩:=by
 have F:=dj
 have hcont:(aS C::bm).contains (.type "ValueError")=true:=by rw [cf,a.has (T:="ValueError") (b:=true) (by decide+kernel),ii]
 have hstar:=F.noStar
 (simp only [fP,F.newKind,F.newSplit,F.newRow])
 repeat (first|refine cE hC ?_|(refine dM hC ?_;rw [hcont])|refine wpAny_staticBase_exc hC ?_|refine wpAny_madeBy_exc hC ?_|simp only [bne_self_eq_false,cc,if_false]|wp_step) --
 exact hq
theorem new_exc(a:Above bm){jt:List af}{R:h8 -> ak -> Prop}(hC:h.get? C=some (fk nm q C N bs bm hdct sn sub ab col dd k0 k1 k2 k3 k5 "ValueError.__new__"))
  (hq:R (.ok (.ret (.ref (h.objs.size+1)))) ⟨(h.push {cls:=.type "tuple",data:=.seq jt.toArray}).push (exO C none h.objs.size),g,d,t,os⟩) (hrest:jt.length <=sizeLine):
  codeAny (model prog w) A (.builtin "ValueError.__new__" ⟨.ref C::jt,[]⟩) R ⟨h,g,d,t,os⟩:=by
 have F:=dj
 have hends:=F.ends
 have hcB:(aS C::bm).contains (.type "ValueError")=true:=by rw [cf,a.has (T:="ValueError") (b:=true) (by decide+kernel),ii]
 have hcA:(aS C::bm).contains (.type "AttributeError")=false:=by rw [cf,a.has (T:="AttributeError") F.noAttr];rfl
 have hcN:(aS C::bm).contains (.type "NameError")=false:=by rw [cf,a.has (T:="NameError") F.noName];rfl
 (refine codeAny_builtinAt F.entry ?_)
 (unfold cJ.«BaseException.__new__»)
 refine PySem.wpAt_bind ?_
 show PySem.wpAt _ _ _ (stack >>=_) _ _ _
 refine PySem.wpAt_bind (PySem.wpAt_stack fun p below=> mG ?_)
 wp_walk
 refine mG ?_
 rw [F.owner]
 repeat (first|with_reducible refine wpAny_madeHere_exc F.canon hC ?_|with_reducible refine cE hC ?_|(with_reducible refine dM hC ?_;first|rw [hcB]|rw [hcA]|rw [hcN])|wp_step) --
 show R _ _
 rw [a9]
 exact hq
theorem make_exc{K:Frag}{jt:List af}(X:K.In h)(c:ClsE K C)(hi:findIn K (.ref C) "__init__"=some (some (.ref f)))(hf:typeIn K (.ref f)=some (.type "function"))(hq:codeAny (model prog w) (A.under (.builtin "type.__call__" ⟨.ref C::jt,[]⟩)) (.call (.ref f) ⟨.ref (h.objs.size+1)::jt,[]⟩) (fun r s'=> match r with
    |.ok (.ret v)=> v=.none/\Q (.ref (h.objs.size+1)) s'
    |.ok _=> False
    |.error e=> E e s') ⟨(h.push {cls:=.type "tuple",data:=.seq jt.toArray}).push (exO C none h.objs.size),g,d,t,os⟩) (hrest:jt.length <=sizeLine):
  wpAny (model prog w) A (call (.ref C) jt) Q E ⟨h,g,d,t,os⟩:=by --
 have F:=dj
 obtain⟨nm,q,N,bs,bm,sn,sub,ab,col,dd,k0,k1,k2,k3,k5,e,a⟩:=c.at_
 have hC:=X _ _ e
 have f1:=tc_lookup
 have f2:=tc_bind (.ref C)
 (have hT:(⟨h,g,d,t,os⟩:ak).TypeIs (.ref C) "type":=⟨_,hC,rfl⟩)
 (refine jM (kY ?_))
 show wpAny _ _ (callAny (.ref C) _) _ _ _ --
 repeat (any_goals (first|assumption|with_reducible refine cE hC ?_|wp_step)) --
 refine⟨rfl,?_⟩
 refine codeAny_call_builtin_at (iU _ (by decide+kernel)) entry_typeCall (wpAny_check_type_call_sub hC ?_)
 repeat (first|with_reducible refine cE hC ?_|with_reducible refine wpAny_madeBy_exc hC ?_|wp_step) --
 refine codeAny_call_builtin_code (iU _ F.quiet) (aqh a hC ?_)
 refine new_exc a hC ?_ hrest
 show wpAny _ _ _ _ _ _
 have k: ∀b o,h.get? b=some o -> ((h.push {cls:=.type "tuple",data:=.seq jt.toArray}).push (exO C none h.objs.size)).get? b=some o:=fun b o e=> aj _ (aj _ e)
 have hC₁:=k _ _ hC
 have hget:((h.push {cls:=.type "tuple",data:=.seq jt.toArray}).push (exO C none h.objs.size)).get? (h.objs.size+1)=some {cls:=.ref C,data:=.fields #[.ref h.objs.size,.none,.none,.none,.bool false,.none]}:=by heap_get
 (have hcC:(aS C::bm).contains (.ref C)=true:=by simp)
 unfold isInstance
 repeat (first|with_reducible refine cE hget ?_|(with_reducible refine dM hC₁ ?_;rw [hcC])|wp_step) --
 (refine dM hC₁ ?_;rw [hcC])
 repeat (first|with_reducible refine cE hget ?_|wp_step)
 show wpAny _ _ (typeLookup (.ref C) _) _ _ _ --
 have L1:=(looks_findIn (M:=model prog w) X hi).keeps k
 have L2:=(bind_fn (M:=model prog w) X (.ref (h.objs.size+1)) hf).keeps k
 refine L1.at ?_
 refine bC (ae (L2.at (ae (jM (dU hq fun r s' z=> ?_)))))
 (rcases r with e|(v|_|_|_) <;> first|exact z|exact z.elim|skip)
 obtain⟨rfl,hQ⟩:=z
 wp_walk
 exact hQ
end
end EX
namespace L2
open PySem PySem.Spec PyProof.Rows EX
structure ClsX (K:am) (C:Addr):Prop extends ClsE K C where
 ca:cG K (.ref C) "__class__"=some (some (.builtin "object.__class__"))
 cg:fq K (.builtin "object.__class__") "__get__"=some (some (.builtin "getset_descriptor.__get__"))
 ct:kR K (.builtin "object.__class__")=some true
section
variable{X:Cx}{pins:List (Addr×Obj)}{σ:St}{H:Hp}{s:ak}{a C:Addr}{fs:List (Str×V)}{f:Str}{v:V}{A:bj}{E:af -> ak -> Prop}
theorem ag1(hok:HOk X.prog X.w H s.heap)(e:H a=some (.exn C fs)):fs.length <=1000/\ ∃(t:Addr) (dxo:Option Addr),s.heap.get? a=some (ax1 C dxo t)/\((dxo=none/\fs=[])\/ ∃dx,dxo=some dx/\H dx=some (.own a)/\dx≠a/\
   ∃mA,s.heap.Ns1 dx mA/\(∀f,afx (fs.lookup f) (mA f))/\fx mA (fs.map (·.1))):=
 (show ke X.prog X.w H s.heap a (.exn C fs) from hok a _ e)
theorem ao9{y:V}{u:af}{Q:Unit -> ak -> Prop}(I:Inv X pins σ H s)(e:H a=some (.exn C fs))(c:ClsX X.K C)(n:aa8 X.K C f)(hl:fs.length < 1000)(ry:RelV y u)
  (h: ∀s' H1,(H1=H\/ ∃dx,H dx=none/\H1=upd H dx (.own a)) -> Inv X pins σ (upd H1 a (.exn C (vj f y fs))) s' -> Q () s'):wpAny (model X.prog X.w) A (setAttr (.ref a) f u) Q E s:=by
 have hlen:(vj f y fs).length <=1000:=by have:=ah0 f y fs;lia
 obtain⟨_,t,dxo,hx,⟨q,q2⟩|⟨dx,q,ho,ne,mA,N,r,wi⟩⟩:=ag1 I.hok e
 ·subst q
  have hz:s.heap.objs.size≠a:=cW (aR (ay hx))
  refine EX.set_none I.kIn c.toClsE n hx fun h' hx' N' k=> ?_
  obtain⟨od,es,ep,hod,hc⟩:=id N'
  have hf:od.isFreed=false:=(Heap.get?_some_iff.mp hod).2
  have e1:(s.heap.push od).get? s.heap.objs.size=some od:=aA s.heap hf
  have I1:=I.laid (a:=s.heap.objs.size) (o:=.own a) (h':=s.heap.push od) (t':=s.toks) (fun b u q=> aj _ q) (au _) ⟨_,e1⟩
  have ea:upd H s.heap.objs.size (.own a) a=some (.exn C fs):=by rw [ko (cW hz)];exact e
  refine h _ _ (.inr ⟨_,I.hok.fresh (au _),rfl⟩) (I1.write (x:=a) (e:=a) (h':=h') (t':=s.toks+2) (by rw [ea];exact ek) (.inl rfl) (fun b v hb z=> ?_) ⟨_,hx'⟩ ?_)
  ·by_cases hbs:b=s.heap.objs.size
   ·subst hbs
    have z:(s.heap.push od).get? s.heap.objs.size=some v:=z
    rw [e1]at z;cases z;exact hod
   ·refine k b v hb ?_
    have z:(s.heap.push od).get? b=some v:=z
    rwa [dH s.heap b od hbs]at z
  ·refine⟨hlen,t,some s.heap.objs.size,hx',.inr ⟨_,rfl,by rw [ko hz,yw],hz,_,N',fun g=> ?_,fun g hg=> ?_⟩⟩
   ·show afx ((vj f y fs).lookup g) (if g=f then some u else none)
    rw [ada]
    by_cases q:g=f
    ·rw [if_pos q,if_pos q];exact ry
    ·rw [if_neg q,if_neg q,q2];exact ek
   ·by_cases q:g=f
    ·rw [q];exact (acu f y fs).1
    ·exact absurd (by show (if g=f then some u else none)=none;rw [if_neg q]) hg
 ·subst q
  have hz:(fs.map (·.1)).length <=sizeLine:=by rw [ao,sizeLine_eq];lia
  refine EX.set_some I.kIn c.toClsE n hx N ne wi hz fun h' N' sb=> ?_
  have hd: ∃o,h'.get? dx=some o:=let ⟨o,_,_,e',_⟩:=N';⟨o,e'⟩
  refine h _ _ (.inl rfl) (I.write (x:=a) (e:=dx) (t':=s.toks+2) (by rw [e];exact ek) (.inr ho) (fun b q hb z=> (sb.2 b hb).trans z) hd ?_)
  refine⟨hlen,t,some dx,(sb.2 a (cW ne)).trans hx,.inr ⟨dx,rfl,by rw [ko ne];exact ho,ne,_,N',fun g=> ?_,fun g hg=> ?_⟩⟩
  ·show afx ((vj f y fs).lookup g) (if g=f then some u else mA g)
   rw [ada]
   by_cases q:g=f
   ·rw [if_pos q,if_pos q];exact ry
   ·rw [if_neg q,if_neg q];exact r g
  ·by_cases q:g=f
   ·rw [q];exact (acu f y fs).1
   ·refine (acu f y fs).2 g (wi g fun z=> hg ?_)
    show (if g=f then some u else mA g)=none
    rw [if_neg q];exact z
theorem aye(I:Inv X pins σ H s)(e:H a=some (.exn C fs))(cl:ClsX X.K C)(hu:us.length <=sizeLine)(h: ∀s',Inv X pins σ H s' -> Q .none s'):
  wpAny (model X.prog X.w) A (call (.builtin "ValueError.__init__") (.ref a::us)) Q E s:=by
 obtain⟨z,t,dxo,hx,w⟩:=ag1 I.hok e
 obtain⟨nm,q,N,bs,bm,sn,sub,ab,col,dd,k0,k1,k2,k3,k5,hK,av⟩:=cl.at_
 (obtain⟨hp,g,d,tk,os⟩:=s)
 refine EX.init_exc (t:=tk) av (I.kIn _ _ hK) hx (fun h' hx' k=> h _ ?_) hu
 have hH:upd H a (.exn C fs)=H:=by
  funext b;unfold upd;split
  ·rename_i y;subst y;exact e.symm
  ·rfl
 have:=I.write (x:=a) (e:=a) (h':=h') (t':=tk) (o:=.exn C fs) (by rw [e];exact ek) (.inl rfl) (fun b v hb y=> k b v hb y) ⟨_,hx'⟩ ?_
 ·rw [hH]at this;exact this
 ·rw [hH]
  refine⟨z,hp.objs.size,dxo,hx',?_⟩
  rcases w with w|⟨dx,w1,ho,ne,mA,⟨od,es,ep,e2,c⟩,r⟩
  ·exact .inl w
  ·exact .inr ⟨dx,w1,ho,ne,mA,⟨od,es,ep,k _ _ ne e2,c⟩,r⟩
end
section
variable{X:Cx}{o e value:Expr}{es:List Expr}{f:Str}{pos pos' apos p:Pos}{ta tv:TE}{t:TA}
def a7t(K:am)(ta tv:TE)(f:Str):TS:=fun D σ H=> tv σ H fun y H1=> ta σ H1 fun x H2=> ∃a C fs,x=.ref a/\H2 a=some (.exn C fs)/\ClsX K C/\aa8 K C f/\fs.length < 1000/\
 ∀H3,(H3=H2\/ ∃dx,H2 dx=none/\H3=upd H2 dx (.own a)) -> D.nx σ (upd H3 a (.exn C (vj f y fs)))
theorem a0w(ha:PE X o ta)(hv:PE X value tv)(hs:gf value (some (.Attribute o f pos')) pos.line X.env=pure false):PS X (.Assign [.Attribute o f pos'] value pos) (a7t X.K ta tv f):=by
 refine⟨?_⟩;intro pins s σ H D I h
 refine plainObj_wpAny_Assign_Attribute (thn (hv pins s σ H _ I h) fun u s1 ⟨y,H1,I1,ry,q⟩=> thn (ha pins s1 σ H1 _ I1 q) fun ov s2 ⟨x,H2,I2,rx,a,C,fs,ex,ea,c,n,l,q2⟩=> ?_) hs
 subst ex
 obtain rfl:ov=aS a:=rx
 exact ao9 I2 ea c n l ry fun s3 H3 w I3=> ⟨σ,_,I3,q2 H3 w⟩
structure ClsM (K:am) (C:Addr) (m:Str) (f:Addr):Prop where
 rd:PySem.W.readsIn K C (.type "type")=true
 fc:lg K (.ref C) (.type "type") m=some (.val (.ref f))
 sg:fq K (.ref C) "__getattribute__"=some (some (.builtin "type.__getattribute__"))
 kp:df K (.ref f)=true
noncomputable def a5g(X:Cx)(f:Addr)(t:TA):TE:=fun σ H Q=> t σ H fun vs H1=> a9l X f σ vs H1 Q
theorem awr{x m:Str}{g:Addr}{pl:Sem Bool}(c:ClsM X.K C m g)(hg:Gl X x)(hm:X.mg x=some (.ref C))(ha:PA X (e::es) t)(hdb:(x==("__debug__":Str))=false:=by decide)(hst:starEach (e::es) X.env=(false,eval e X.env)::starEach es X.env:=by rfl)(hpl:(backTo pos (starEach es X.env)).any (·.1)=false:=by rfl)(ht:eval (.Call (.Attribute (.Name x p) m apos) (e::es) [] pos) X.env=(do
   let ov←eval (.Name x p) X.env
   standAt apos.atName
   let (f,first)←holding [ov] (lh ov m pl)
   callWith pos f first (backTo pos (starEach (e::es) X.env)) (backToKw pos (gM [] X.env))):=by rfl):
  PE X (.Call (.Attribute (.Name x p) m apos) (e::es) [] pos) (a5g X g t):=by
 refine⟨?_⟩;intro pins s σ H Q I h
 refine lJ (pl:=pl) (adz I hg hm ?_ hdb) ht
 refine PySem.W.method_cls I.kIn c.sg (PySem.W.cls_value I.kIn c.rd c.fc rfl ?_)
 have I1:=I.tok (s.toks+1)
 refine iQ (first:=[]) (h₀:=X.base) I.ok.mod.kin c.kp (thn (ha pos pins _ σ H _ I1 h) fun us s2 ⟨vs,H2,I2,r,q2⟩=> ⟨I2.kIn,?_⟩) hst hpl
 exact q2 pins s2 us I2 r
def a4c(K:am)(t:TA):TE:=fun σ H Q=> t σ H fun vs H1=> ∃a C fs ws,vs=.ref a::ws/\H1 a=some (.exn C fs)/\ClsX K C/\ws.length <=sizeLine/\Q .non H1
theorem fcV(K:am):lg K (.type "ValueError") (.type "type") "__init__"=some (.val (.builtin "ValueError.__init__")):=by kernel_rfl
theorem awq{pl:Sem Bool}(hg:Gl X "ValueError")(hm:X.mg "ValueError"=none)(ha:PA X (e::es) t)
  (hst:starEach (e::es) X.env=(false,eval e X.env)::starEach es X.env:=by rfl) (hpl:(backTo pos (starEach es X.env)).any (·.1)=false:=by rfl)
  (ht:eval (.Call (.Attribute (.Name "ValueError" p) "__init__" apos) (e::es) [] pos) X.env=(do
   let ov←eval (.Name "ValueError" p) X.env
   standAt apos.atName
   let (f,first)←holding [ov] (lh ov "__init__" pl)
   callWith pos f first (backTo pos (starEach (e::es) X.env)) (backToKw pos (gM [] X.env))):=by rfl):
  PE X (.Call (.Attribute (.Name "ValueError" p) "__init__" apos) (e::es) [] pos) (a4c X.K t):=by
 refine⟨?_⟩;intro pins s σ H Q I h
 refine lJ (pl:=pl) (aco I hg hm (u:=.type "ValueError") PyProof.Rows.Boot.«ValueError» ?_ (by decide) (by decide)) ht
 have L0:fV (model X.prog X.w) s.heap (typeOf (.type "ValueError")) (.type "type"):=lK (by kernel_rfl)
 have hga:cG X.K (.type "type") "__getattribute__"=some (some (.builtin "type.__getattribute__")):=PySem.W.type_tga
 unfold lh specialOf
 refine ae (ae (L0.here ((PySem.W.looks_findIn I.kIn hga).here ?_)))
 dsimp only
 rw [if_pos PySem.W.canon_tga]
 have LO:fV (model X.prog X.w) s.heap (opaqueClassAbove (.type "ValueError")) none:=lK (by kernel_rfl)
 refine ae (PySem.W.cls_open I.kIn LO L0 hga (PySem.W.looks_hook I.kIn (r:=none) (by rfl)) (by rfl) (fcV X.K) (ah ?_))
 show wpAny _ _ (handedOut (.builtin "ValueError.__init__")) _ _ _
 rw [PySem.W.handedOut_of (by kernel_rfl)]
 (refine ah (ah ?_))
 have I1:=I.tok (s.toks+1)
 refine h9 (thn (ha pos pins _ σ H _ I1 h) fun us s2 ⟨vs,H2,I2,r,a,C,fs,ws,ev,ea,c,hl,q2⟩=> ?_) hst hpl
 subst ev
 cases r with
 | @cons _ u _ us' r1 r2=>
  obtain rfl:u=aS a:=r1
  exact aye I2 ea c (by rw [←r2.length];exact hl) fun s3 I3=> ⟨.non,H2,I3,rfl,q2⟩
end
section
variable{X:Cx}{CX:CXT}{k:Nat}{f C:Addr}{fd:eH}{ps:List Str}{sp:Sp}{E:SK}{x:Str}{p pos:Pos}{e:Expr}{es:List Expr}{t:TA}
structure MkX (K:am) (C f:Addr):Prop where
 cl:ClsX K C
 init:cG K (.ref C) "__init__"=some (some (.ref f))
 fn:PySem.W.isFn K (.ref f)=true
 kp:df K (.ref C)=true
theorem av6{Q:VK}{vs:List V}(M:MkX X.K C f)(F:FnOk X.prog X.w X.K X.mg X.base CX k f fd ps sp)(hr:Room (k+1) X.A)(hb:Binds X.K fd ps [])(hx:afh CX X E)(I:Inv X pins σ H s)(r:jm vs us)(hz:us.length <=sizeLine)(h: ∀x,H x=none -> sp (.ref x::vs) (upd H x (.exn C [])) (fun v H2=> v=.non/\Q (.ref x) H2) (E σ)):
  wpAny (model X.prog X.w) X.A (call (.ref C) us) (EP X pins σ Q) X.xe s:=by
 have hq:=h (s.heap.objs.size+1) (I.hok.fresh (eE _))
 have e1:((s.heap.push {cls:=.type "tuple",data:=.seq us.toArray}).push (exO C none s.heap.objs.size)).get? (s.heap.objs.size+1)=some (exO C none s.heap.objs.size):=by
  have:=aA (s.heap.push {cls:=.type "tuple",data:=.seq us.toArray}) (o:=exO C none s.heap.objs.size) rfl
  rwa [a9]at this
 have I2:Inv X pins σ (upd H (s.heap.objs.size+1) (.exn C [])) {s with heap:=(s.heap.push {cls:=.type "tuple",data:=.seq us.toArray}).push (exO C none s.heap.objs.size)}:=
  I.laid (a:=s.heap.objs.size+1) (o:=.exn C []) (t':=s.toks) (fun b u q=> aj _ (aj _ q)) (eE _) ⟨cy _,_,none,e1,.inl ⟨rfl,rfl⟩⟩
 have r2:jm (V.ref (s.heap.objs.size+1)::vs) (aS (s.heap.objs.size+1)::us):=.cons rfl r
 have hl:(aS (s.heap.objs.size+1)::us++ []).length=ps.length:=by
  have e:=r2.length
  rw [F.len _ _ _ _ hq]at e
  rw [cn];exact e.symm
 have hB:=hb _ (aS (s.heap.objs.size+1)::us) I2.kIn hl
 rw [cn]at hB
 (obtain⟨hp,g,d,tk,os⟩:=s)
 refine EX.make_exc I.kIn M.cl.toClsE M.init (beq_iff_eq.mp M.fn) (dU (F.run _ X.stack _ _ ⟨aS (hp.objs.size+1)::us,[]⟩ (aS (hp.objs.size+1)::us) _ _ (E σ) (hr.make C us [])
  (I2.env0.make C us []) hB r2 hq) fun r s' hq'=> ?_) hz
 cases r with
 |error e=> exact hx pins σ _ _ e s' I2 hq'
 | ok fl=>
  cases fl with
  |ret u=>
   obtain⟨v,H',I3,rv,ev,q3⟩:=I2.after hq'
   subst ev
   exact⟨rv,⟨V.ref (hp.objs.size+1),H',I3,rfl,q3⟩⟩
  |next=> exact dA hq'
  |brk=> exact dA hq'
  |cont=> exact dA hq'
def a46(C:Addr)(sp:Sp)(E:SK)(t:TA):TE:=fun σ H Q=> t σ H fun vs H1=> vs.length <=sizeLine/\ ∀x,H1 x=none -> sp (.ref x::vs) (upd H1 x (.exn C [])) (fun v H2=> v=.non/\Q (.ref x) H2) (E σ)
theorem aw7(M:MkX X.K C f)(F:FnOk X.prog X.w X.K X.mg X.base CX k f fd ps sp)(hr:Room (k+1) X.A)(hg:Gl X x)(hm:X.mg x=some (.ref C))(hb:Binds X.K fd ps [])(hx:afh CX X E)
  (ha:PA X (e::es) t) (hdb:(x==("__debug__":Str))=false:=by decide) (he:starEach (e::es) X.env=(false,eval e X.env)::starEach es X.env:=by rfl) (hpl:(backTo pos (starEach es X.env)).any (·.1)=false:=by rfl):
  PE X (.Call (.Name x p) (e::es) [] pos) (a46 C sp E t):=by
 refine⟨?_⟩;intro pins s σ H Q I h
 refine gg (adz I hg hm ?_ hdb)
 refine iQ (h₀:=X.base) I.ok.mod.kin M.kp (thn (ha pos pins s σ H _ I h) fun us s1 ⟨vs,H1,I1,r,hz,q⟩=> ⟨I1.kIn,?_⟩) he hpl
 exact av6 M F hr hb hx I1 r (show us.length <=sizeLine from r.length▸hz) q
end
end L2
namespace L2
open PySem PySem.Spec
structure Noted (l:List Env) (p C:Addr) (dx:Option Addr) (t:Addr) (h h':Heap):Prop where
 sz:h'.objs.size=h.objs.size+1
 keep: ∀b o,h.get? b=some o -> b≠p -> b∉frs l -> h'.get? b=some o
 slot: ∀b o,h.get? b=some o -> b≠p -> ∃sl,h'.get? b=some {o with slots:=sl}
 exc:h'.get? p=some (adb C dx t (.ref h.objs.size))
 ent: ∃oT ts,h'.get? h.objs.size=some oT/\oT.data=.fields ts/\ts[3]?=some .none
theorem apf{outer:List Env}{L t:Addr}{tb head:af}{hadNext:Bool}{Q:Unit -> ak -> Prop}(hfr:A.frames=some (env::outer))(hl:s.heap.FunFrames base (env::outer))(hf:env.frame=some L)(he:s.heap.get? p=some (adb C dx t tb))(h: ∀h',Noted (env::outer) p C dx t s.heap h' -> Q () {s with heap:=h'}):
  wpAny M A (do let a←frameOf env;let pl←entryPlaceOf L hadNext;let b←mH head a .none (rawInt L) .none pl;setField (.ref p) 1 b) (fun _ s'=> wpAny M A (iX (.ref p) none) Q E s') E s:=by
 have hene:p∉(env::outer).filterMap (·.frame):=fun hm=> by
  (obtain⟨_,o,ho,hnf⟩:=hl.mem hm)
  rw [he]at ho;injection ho with ho;subst ho;exact hnf _ rfl
 (refine ae (wpAny_frameOf_fun hfr hl hf fun h₁ hs₁=> ?_))
 (refine ae (wpAny_entryPlaceOf fun pl hpl=> ?_))
 (unfold mH newFields)
 (refine ae (bD ?_ (hpl.sizeOk5 _ _ _ _ _)))
 have he₁:h₁.get? p=some (adb C dx t tb):=(hs₁.2.1 p hene).trans he
 (have he₂:=aj (h:=h₁) {cls:=.type "traceback",dict:=none,data:=.fields ([head,.ref L,.none,rawInt L,.none]++(if pl.isEmpty then aC 6 aZ else pl)).toArray} he₁)
 refine cw he₂ rfl (show 1 < 6 by decide) ?_
 have hTe:h₁.objs.size≠p:=dR (ay he₁)
 have he₃:=bK (de (·.setIfInBounds 1 (aS h₁.objs.size))) he₂ (hU (eY rfl _))
 have hT₃:=(bO (h₁.push {cls:=.type "traceback",dict:=none,data:=.fields ([head,.ref L,.none,rawInt L,.none]++(if pl.isEmpty then aC 6 aZ else pl)).toArray}) --
  (de (·.setIfInBounds 1 (aS h₁.objs.size))) (cW hTe)).trans (aA h₁ rfl) --
 unfold iX
 refine ae (a7 he₃ rfl (x:=.ref h₁.objs.size) rfl ?_)
 (rw [if_pos (show (aS h₁.objs.size !=aZ)=true from by simp)])
 (refine cw hT₃ rfl (by simp only [ax,bv,aQ,dZ] <;> lia) (h _ ?_))
 have keep: ∀b o,b≠p -> h₁.get? b=some o ->
   (((h₁.push {cls:=.type "traceback",dict:=none,data:=.fields ([head,.ref L,.none,rawInt L,.none]++(if pl.isEmpty then aC 6 aZ else pl)).toArray}).update p (de (·.setIfInBounds 1 (aS h₁.objs.size)))).update h₁.objs.size
    (de (·.setIfInBounds 3 ((none:Option Addr).elim aZ fun f=> rawInt f)))).get? b=some o:=fun b o hbe hb=> by --
  (have hbT:h₁.objs.size≠b:=dR (ay hb))
  (rw [bO _ _ hbT,bO _ _ (cW hbe)])
  (exact aj _ hb)
 refine⟨?_,fun b o hb hbp hbf=> keep b o hbp ((hs₁.2.1 b hbf).trans hb),fun b o hb hbp=> ?_,?_,?_⟩
 ·rw [lv,lv,←hs₁.1]
  simp [Heap.push]
 ·obtain⟨sl,hs⟩:=hs₁.2.2 b o hb
  exact⟨sl,keep b _ hbp hs⟩
 ·rw [bO _ _ hTe,he₃,←hs₁.1];rfl
 ·rw [←hs₁.1]
  exact⟨_,_,bK _ hT₃ (hU (eY rfl _)),eY rfl _,by first|(simp;done)|(rcases hpl with rfl|⟨_,_,_,_,_,_,_,rfl⟩ <;> simp)⟩
def amo(h:Heap)(p:Addr)(tb:af):Prop:=tb=.none\/ ∃T oT ts,tb=.ref T/\T≠p/\h.get? T=some oT/\oT.data=.fields ts/\ts[3]?=some .none
theorem av5{outer:List Env}{L t:Addr}{tb:af}{Q:Unit -> ak -> Prop}(hfr:A.frames=some (env::outer))(hl:s.heap.FunFrames base (env::outer))(hf:env.frame=some L)(he:s.heap.get? p=some (adb C dx t tb))(ht:amo s.heap p tb)(h: ∀h',Noted (env::outer) p C dx t s.heap h' -> Q () {s with heap:=h'}):wpAny M A (kW (.ref p) env) (fun _ s'=> wpAny M A (iX (.ref p) none) Q E s') E s:=by
 unfold kW
 simp only [hf]
 rcases ht with rfl|⟨T,oT,ts,rfl,hTp,hT,hd,h3⟩
 ·refine ae (a7 he rfl (x:=.none) rfl ?_)
  rw [if_neg (by decide)]
  exact apf hfr hl hf he h
 ·refine ae (a7 he rfl (x:=.ref T) rfl ?_)
  (rw [if_pos (show (aS T !=aZ)=true from by simp)])
  refine ae (a7 hT hd h3 ?_)
  (rw [if_neg (show¬((aZ==rawInt L)=true) from by simp [rawInt])])
  refine ae (cw hT hd (bP.mp h3).1 ?_)
  rw [jR _ _ _ _ _ _ hT hd h3]
  exact apf hfr hl hf he h
theorem a1z{outer:List Env}{L t:Addr}{tb:af}{Q:Unit -> ak -> Prop}(hfr:A.frames=some (env::outer))(hl:s.heap.FunFrames base (env::outer))(hf:env.frame=some L)(he:s.heap.get? p=some (adb C dx t tb))(ht:amo s.heap p tb)(h: ∀h',Noted (env::outer) p C dx t s.heap h' -> Q () {s with heap:=h'}):wpAny M A (leaving env (.ref p)) Q E s:=by
 unfold leaving
 exact ae (av5 hfr hl hf he ht h)
end L2
namespace L2
open PySem PySem.Spec PyProof.Rows EX
section
variable{P:aT}{w:aX}{H H':Hp}{h h':Heap}{l:List Env}{p C t:Addr}{dx:Option Addr}{fs:List (Str×V)}
theorem Noted.un(n:Noted l p C dx t h h')(hp:H p=some (.exx C fs)):Un (frs l) [] H H h h' where
 keep b o e hn hf _:=n.keep b o e (fun z=> by rw [z,hp]at hn;cases hn) hf
 slot b o e hn _ _:=n.slot b o e fun z=> by rw [z,hp]at hn;cases hn
 free b o _ hn _:=hn
 there b o e _:=by
  by_cases z:b=p
  ·rw [z];exact⟨_,n.exc⟩
  ·obtain⟨sl,q⟩:=n.slot b o e z;exact⟨_,q⟩
 tups _ _ q:=q
 frzs _ _ _ q:=q
 tbls _ ps q:=⟨#[],by rw [Array.append_empty];exact q⟩
theorem Noted.hok(n:Noted l p C dx t h h')(ok:HOk P w H h)(hp:H p=some (.exx C fs))(he: ∃tb,h.get? p=some (adb C dx t tb))(hf: ∀b∈frs l,H b=none):HOk P w H h':=fun a o q=> by
 by_cases z:a=p
 ·subst z
  rw [hp]at q;cases q
  obtain⟨b0,t',tb',dxo,e,r⟩:=(show ke P w H h a (.exx C fs) from ok a _ hp)
  obtain⟨tb,he⟩:=he
  rw [he]at e
  have e:=cq e
  have ed:dx=dxo:=congrArg Obj.dict e
  subst ed
  refine⟨b0,t,_,dx,n.exc,?_⟩
  rcases r with r|⟨d,r,d1,ne,mA,⟨od,es,ep,e2,c⟩,r'⟩
  ·exact .inl r
  ·refine .inr ⟨d,r,d1,ne,mA,⟨od,es,ep,n.keep d od e2 ne (fun m=> ?_),c⟩,r'⟩
   rw [hf d m]at d1;cases d1
 ·refine (ok a o q).stay (fun b u hb e=> n.keep b u e ?_ ?_) (fun _ r=> r) fun _ _ r=> r
  ·rcases hb with rfl|hb
   ·exact z
   ·intro y;rw [y,hp]at hb;cases hb
  ·intro m
   rcases hb with rfl|hb
   ·rw [hf b m]at q;cases q
   ·rw [hf b m]at hb;cases hb
end
def CX1(P:aT)(w:aX):CXT:=fun outer H s E e s'=> ∃(p:Addr) (H':Hp) (C:Addr) (fs:List (Str×V)) (t:Addr) (dx:Option Addr) (tb:af),e=.ref p/\s'.os=s.os/\gr s'.gens/\
 Un (frs outer) [] H H' s.heap s'.heap/\HOk P w H' s'.heap/\H' p=some (.exx C fs)/\s'.heap.get? p=some (adb C dx t tb)/\amo s'.heap p tb/\E (.ref p) none H'
abbrev XE:=St -> Addr -> Hp -> Prop
noncomputable def XE.sk(E:XE):SK:=fun σ v _ H=> ∃p,v=.ref p/\E σ p H
structure XOk (X:Cx) (E:XE):Prop where
 pass:afh (CX1 X.prog X.w) X E.sk
 own:nB (model X.prog X.w) X.A X.env X.xe
theorem XOk.never(h:nB (model X.prog X.w) X.A X.env X.xe):XOk X fun _ _ _=> False:=⟨fun _ _ _ _ _ _ _ ⟨_,_,_,_,_,_,_,_,_,_,_,_,_,_,_,_,_,f⟩=> f.elim,h⟩
theorem a70{cd:af}{outer:List Env}{E:XK}:
  XOk (zt (CX1 P w) P w K mg base N qual scope f cd A outer s H E) fun _ p H=> E (.ref p) none H:=by
 refine⟨fun pins σ H1 s1 e s' I hc=> ?_,PassesOwn.leaving⟩
 obtain⟨p,H2,C,fs,t,dx,tb,rfl,os,bare,un,hok,hp,he,ht,p',ep,hE⟩:=hc
 cases ep
 have J:=I.call' (H':=H2) os un hok bare fun b z=> absurd z (by simp)
 refine a1z (M:=model P w) J.ok.frames J.stack rfl he ht fun h' n=> ?_
 have fr: ∀b∈frs (zt (CX1 P w) P w K mg base N qual scope f cd A outer s H E).stack,H2 b=none:=J.stkFree
 have B:Un (frs outer) [] H H2 s.heap s'.heap:=J.base
 have hL:s.heap.objs.size <=(zt (CX1 P w) P w K mg base N qual scope f cd A outer s H E).env.locals:=J.ok.above
 have inF: ∀b,b∈frs (zt (CX1 P w) P w K mg base N qual scope f cd A outer s H E).stack -> b=(zt (CX1 P w) P w K mg base N qual scope f cd A outer s H E).env.locals\/b∈frs outer:=fun b z=> aw.mp (J.stkSub b z)
 refine⟨p,H2,C,fs,t,dx,.ref s'.heap.objs.size,rfl,J.os,J.bare,⟨fun b o e hn hf hx=> ?_,fun b o e hn hf hx=> ?_,B.free,fun b o e hx=> ?_,B.tups,B.frzs,B.tbls⟩,n.hok hok hp ⟨tb,he⟩ fr,hp,n.exc,.inr ?_,hE⟩
 ·refine n.keep b o (B.keep b o e hn hf hx) (fun z=> ?_) fun z=> ?_
  ·have:=B.free b o e hn hx;rw [z,hp]at this;cases this
  ·rcases inF b z with z|z
   ·exact absurd (ay e) (by rw [z];exact jP.mpr hL)
   ·exact hf z
 ·obtain⟨sl,q⟩:=B.slot b o e hn hf hx
  obtain⟨sl2,q2⟩:=n.slot b _ q fun z=> by have:=B.free b o e hn hx;rw [z,hp]at this;cases this
  exact⟨sl2,q2⟩
 ·obtain⟨o',q⟩:=B.there b o e hx
  by_cases z:b=p
  ·rw [z];exact⟨_,n.exc⟩
  ·obtain⟨sl,q2⟩:=n.slot b o' q z;exact⟨_,q2⟩
 ·obtain⟨oT,ts,e1,e2,e3⟩:=n.ent
  exact⟨_,oT,ts,rfl,dR (ay he),e1,e2,e3⟩
section
variable{X:Cx}{pins:List (Addr×Obj)}{σ:St}{H:Hp}{s:ak}{p C:Addr}{fs:List (Str×V)}{E:XE}
theorem XOk.raise(x:XOk X E)(I:Inv X pins σ H s)(e:H p=some (.exn C fs))(h:E σ p (upd H p (.exx C fs))):X.xe (.ref p) s:=by
 obtain⟨b0,t,dxo,he,r⟩:=ag1 I.hok e
 refine x.pass pins σ H s (.ref p) s I ⟨p,upd H p (.exx C fs),C,fs,t,dxo,.none,rfl,rfl,I.bare,Un.write (e:=p) (by rw [e];trivial) (.inl rfl) (fun b u _ q=> q) ⟨_,he⟩,?_,yw,he,.inl rfl,p,rfl,h⟩
 refine I.hok.write (e:=p) (by rw [e];trivial) (.inl rfl) (fun b u _ q=> q) ⟨_,he⟩ ⟨b0,t,.none,dxo,he,?_⟩
 rcases r with r|⟨d,r,d1,ne,r'⟩
 ·exact .inl r
 ·exact .inr ⟨d,r,by rw [ko ne];exact d1,ne,r'⟩
end
theorem a1a{x:Sem af}{Q:Flow -> ak -> Prop}(hh:A.handled=none)(h:wpAny M A x (fun v s₁=> ∃e t dx C,v=.ref e/\(∃nm q N bs bm hdct sn sub ab col dd k0 k1 k2 k3 k5 newId,s₁.heap.get? C=some (fk nm q C N bs bm hdct sn sub ab col dd k0 k1 k2 k3 k5 newId)/\bm.contains (.type "BaseException")=true)/\
   s₁.heap.get? e=some (ax1 C dx t)/\E (.ref e) s₁) E s):wpAny M A (raiseStmt env (some x) none) Q E s:=by
 unfold raiseStmt
 (refine ae (cL h (fun v s₁ h₁=> ?_) fun _ _ x=> x))
 obtain⟨e,t,dx,C,rfl,⟨nm,q,N,bs,bm,hdct,sn,sub,ab,col,dd,k0,k1,k2,k3,k5,newId,hC,hbase⟩,he,hE⟩:=h₁
 (have hcB:(aS C::bm).contains (.type "BaseException")=true:=by rw [cf,hbase,ii])
 (obtain⟨hp,g,d,tk,os⟩:=s₁)
 repeat (first|with_reducible refine cE he ?_|with_reducible refine cE hC ?_|(with_reducible refine dM hC ?_;rw [hcB])|wp_step) --
 (exact wpAny_raiseNew_none hh hE)
section
variable{X:Cx}{E:XE}{a:Expr}{ta:TE}{pos:Pos}
def a4x(K:am)(E:XE)(ta:TE):TS:=fun D σ H=> ta σ H fun v H1=> ∃p C fs,v=.ref p/\H1 p=some (.exn C fs)/\ClsX K C/\E σ p (upd H1 p (.exx C fs))
theorem axk(x:XOk X E)(hc:X.calm=true)(ha:PE X a ta):PS X (.Raise (some a) none pos) (a4x X.K E ta):=by
 refine⟨?_⟩;intro pins s σ H D I hw
 show wpAny _ _ (do standAt pos;raiseStmt X.env (some (do let v←eval a X.env;standAt pos;pure v)) none) _ _ s
 refine ae (fQ (a1a (I.ok.hd hc) (ae (cL (ha pins s σ H _ I hw) (fun v s1 h1=> ae (fQ (ah ?_))) fun _ _ x=> x))))
 obtain⟨v',H1,I1,rv,p,C,fs,rfl,e,cl,hE⟩:=h1
 obtain rfl:v=aS p:=rv
 obtain⟨b0,t,dxo,he,_⟩:=ag1 I1.hok e
 obtain⟨nm,q,N,bs,bm,sn,sub,ab,col,dd,k0,k1,k2,k3,k5,lk,av⟩:=cl.toClsE.at_
 exact⟨p,t,dxo,C,rfl,⟨nm,q,N,bs,bm,true,sn,sub,ab,col,dd,k0,k1,k2,k3,k5,_,I1.kIn _ _ lk,av.has (T:="BaseException") (b:=true) (by decide+kernel)⟩,he,x.raise I1 e hE⟩
end
abbrev Cx.hand(X:Cx)(e:af):Cx:={X with A:=X.A.mark (some e),calm:=false,xe:=fun _ _=> False}
abbrev Cx.tries(X:Cx)(pn:List (Addr×Obj))(E:af -> ak -> Prop):Cx:={X with pn:=pn,xe:=E}
theorem Inv.hand(I:Inv X pins σ H s)(e:af):Inv (X.hand e) pins σ H s:=
 ⟨⟨I.ok.mod,I.ok.kind,I.ok.glob,I.ok.blt,I.ok.above,I.ok.inj,I.ok.has,I.ok.cab,fun h=> (by cases h),I.ok.frames,I.ok.stk,I.ok.exf,I.ok.bs,I.ok.bsz,I.ok.noex,I.ok.exfs,I.ok.funs,I.ok.frf⟩,I.os,I.bare,I.base,I.loc,I.cell,I.free,I.freeC,I.pin,I.hok,I.len⟩
theorem Inv.unhand{e:af}(ok:X.Ok)(I:Inv (X.hand e) pins σ H s):Inv X pins σ H s:=⟨ok,I.os,I.bare,I.base,I.loc,I.cell,I.free,I.freeC,I.pin,I.hok,I.len⟩
theorem Inv.tries(I:Inv X pins σ H s)(E:af -> ak -> Prop):Inv (X.tries (X.pn++pins) E) [] σ H s:=
 ⟨⟨I.ok.mod,I.ok.kind,I.ok.glob,I.ok.blt,I.ok.above,I.ok.inj,I.ok.has,I.ok.cab,I.ok.hd,I.ok.frames,I.ok.stk,I.ok.exf,I.ok.bs,I.ok.bsz,I.ok.noex,I.ok.exfs,I.ok.funs,I.ok.frf⟩,I.os,I.bare,I.base,I.loc,I.cell,I.free,I.freeC,fun p hp=> I.pin p (by rwa [cn]at hp),I.hok,I.len⟩
theorem Inv.untries(ok:X.Ok)(I:Inv (X.tries (X.pn++pins) E) pins' σ H s):Inv X pins σ H s:=
 ⟨ok,I.os,I.bare,I.base,I.loc,I.cell,I.free,I.freeC,fun p hp=> I.pin p (fN _ hp),I.hok,I.len⟩
theorem SP.untries{D:Ends}{f:Flow}{s':ak}(ok:X.Ok)(h:SP (X.tries (X.pn++pins) E) pins' D f s'):SP X pins D f s':=by
 cases f with
 |next=> obtain⟨σ',H',I,q⟩:=h;exact⟨σ',H',I.untries ok,q⟩
 |brk=> obtain⟨σ',H',I,q⟩:=h;exact⟨σ',H',I.untries ok,q⟩
 |cont=> obtain⟨σ',H',I,q⟩:=h;exact⟨σ',H',I.untries ok,q⟩
 |ret u=> obtain⟨v,σ',H',I,r,q⟩:=h;exact⟨v,σ',H',I.untries ok,r,q⟩
theorem a5f{t:Addr}{tb:af}{Q:Unit -> ak -> Prop}(he:s.heap.get? p=some (adb C dx t tb))(ht:amo s.heap p tb)(h:Q () s):wpAny M A (iX (.ref p) none) Q E s:=by
 unfold iX
 rcases ht with rfl|⟨T,oT,ts,rfl,hTp,hT,hd,h3⟩
 ·refine ae (a7 he rfl (x:=.none) rfl ?_)
  rw [if_neg (by decide)]
  exact ah h
 ·refine ae (a7 he rfl (x:=.ref T) rfl ?_)
  (rw [if_pos (show (aS T !=aZ)=true from by simp)])
  refine cw hT hd (bP.mp h3).1 ?_
  show Q () {s with heap:=s.heap.update T (de (·.setIfInBounds 3 .none))}
  rw [jR _ _ _ _ _ _ hT hd h3]
  exact h
theorem Fun.okX{x:Str}{sp:Sp}(F:Fun K x qual st f fd)(S:FnScope N ps (je st))(len: ∀vs H Q E,sp vs H Q E -> vs.length=ps.length)(hbody: ∀(cdv:af) (A:bj) (outer:List Env) (s:ak) (H:Hp) (vs:List V) (Q:VK) (E:XK),Room k (A.deeper (envOfC qual (je st) s.heap.objs.size f cdv)) -> sp vs H Q E ->
   ∃t,PSs (zt (CX1 P w) P w K mg base N qual (je st) f cdv A outer s H E) (ve st) t/\t {nx:=fun _ H'=> Q .non H',rt:=Q} (start N vs) H):FnOk P w K mg base (CX1 P w) (k+1) f fd ps sp:=by
 obtain⟨oc,od,kV,doc,pm,an,cdv,ct,osl,rfl,lk,hcd⟩:=F.ex
 exact a6w lk hcd S len fun A outer s H vs Q E hr h=> hbody cdv A outer s H vs Q E hr h
def ax3(P:aT)(w:aX)(K:am)(mg:Str -> Option af)(base:Heap)(x:Str)(k:Nat)(sp:Sp):Prop:=
 ∃(f:Addr) (fd:eH) (ps:List Str),FnOk P w K mg base (CX1 P w) k f fd ps sp/\mg x=some (.ref f)/\df K (.ref f)=true/\Binds K fd ps []
theorem Has.calX{x:Str}{sp:Sp}(h:Has K mg x st ps)(S:FnScope N ps (je st))(len: ∀vs H Q E,sp vs H Q E -> vs.length=ps.length)(hbody: ∀(f:Addr) (cdv:af) (A:bj) (outer:List Env) (s:ak) (H:Hp) (vs:List V) (Q:VK) (E:XK),Room k (A.deeper (envOfC x (je st) s.heap.objs.size f cdv)) -> sp vs H Q E ->
   ∃t,PSs (zt (CX1 P w) P w K mg base N x (je st) f cdv A outer s H E) (ve st) t/\t {nx:=fun _ H'=> Q .non H',rt:=Q} (start N vs) H):ax3 P w K mg base x (k+1) sp:=by
 obtain⟨f,fd,F,m,b⟩:=h
 exact⟨f,fd,ps,F.okX S len (hbody f),m,F.kp,b⟩
section
variable{X:Cx}{x:Str}{k:Nat}{sp:Sp}{p pos:Pos}{e:Expr}{es:List Expr}{t:TA}{E:XE}
theorem a7c(c:ax3 X.prog X.w X.K X.mg X.base x k sp)(hx:XOk X E)(hr:Room k X.A)(ha:PA X (e::es) t)(hg:Gl X x:=by rfl)(hdb:(x==("__debug__":Str))=false:=by decide)
  (he:starEach (e::es) X.env=(false,eval e X.env)::starEach es X.env:=by rfl) (hpl:(backTo pos (starEach es X.env)).any (·.1)=false:=by rfl):PE X (.Call (.Name x p) (e::es) [] pos) (a03 sp [] E.sk t):=by
 obtain⟨f,fd,ps,F,m,kk,b⟩:=c
 exact a07 F hr hg m kk b .nil hx.pass ha hdb he hpl
end
end L2
namespace PF
open PySem PySem.Spec
open L2
structure Envs (K:am) (as:As) (H:Hp) (ρ:En) (σ:St):Prop where
 len:ρ.length=σ.length
 get: ∀(i:Nat) (d:D),ρ[i]?=some (some d) -> ∃v,σ[i]?=some (some v)/\RD K as H v d
theorem Envs.mono{as as':As}{ρ:En}(e:Envs K as H ρ σ)(st:Step as H as' H'):Envs K as' H' ρ σ:=⟨e.len,fun i d h=> let ⟨v,a,b⟩:=e.get i d h;⟨v,a,b.mono st⟩⟩
theorem Envs.set{as:As}{ρ:En}(e:Envs K as H ρ σ)(i:Nat){d:D}(r:RD K as H v d):Envs K as H (ρ.set i (some d)) (σ.set i (some v)):=by
 refine⟨by simp [e.len],fun j x h=> ?_⟩
 by_cases z:i=j
 ·subst z
  rw [dG]at h⊢
  by_cases hl:i < ρ.length
  ·simp [hl]at h
   subst h
   exact⟨v,by simp [←e.len,hl],r⟩
  ·simp [hl]at h
 ·rw [a8 z]at h⊢
  exact e.get j x h
class XW where
 xk:XE
instance (priority:=low) XW.dft:XW:=⟨fun _ _ _=> False⟩
abbrev XW.of(E:XK):XW:=⟨fun _ p H=> E (.ref p) none H⟩
variable[XW]
def Dn{α β:Type}(K:am)(rel:As -> Hp -> β -> α -> Prop)(as:As)(H:Hp)(r:R α)(Q:β -> Hp -> Prop):Prop:=match r with
 |.ok a s=> ∀b as' H',Step as H as' H' -> Rel K as' H' s -> rel as' H' b a -> Q b H'
 |.bad=> False
 |.ex n ρ s=> ∀as' H' p σ,Step as H as' H' -> Rel K as' H' s -> Envs K as' H' ρ σ -> as'.ix[n]?=some (some p) -> XW.xk σ p H'
theorem Dn.step{α β:Type}{rel:As -> Hp -> β -> α -> Prop}{as as1:As}{H1:Hp}{r:R α}{Q:β -> Hp -> Prop}(h:Dn K rel as H r Q)(st:Step as H as1 H1):Dn K rel as1 H1 r Q:=by
 cases r with
 |ok a s=> exact fun b as' H' s2 rl rb=> h b as' H' (st.trans s2) rl rb
 |bad=> exact h
 |ex n ρ s=> exact fun as' H' p σ s2 rl en e=> h as' H' p σ (st.trans s2) rl en e
theorem Dn.bind{α β γ δ:Type}{r1:As -> Hp -> β -> α -> Prop}{r2:As -> Hp -> δ -> γ -> Prop}{as:As}{r:R α}{f:α -> S -> R γ}{Q:δ -> Hp -> Prop}{Q':β -> Hp -> Prop}(h:Dn K r2 as H (r.bind f) Q)(k: ∀a s as1 H1 b,Step as H as1 H1 -> Rel K as1 H1 s -> r1 as1 H1 b a -> Dn K r2 as1 H1 (f a s) Q -> Q' b H1):Dn K r1 as H r Q':=by
 cases r with
 |ok a s=> exact fun b as' H' st rl rb=> k a s as' H' b st rl rb (Dn.step (r:=f a s) h st)
 |bad=> exact h
 |ex n ρ s=> exact h
theorem Dn.now{α β:Type}{rel:As -> Hp -> β -> α -> Prop}{as:As}{a:α}{s:S}{Q:β -> Hp -> Prop}{b:β}(h:Dn K rel as H (.ok a s) Q)(rl:Rel K as H s)(rb:rel as H b a):Q b H:=h b as H (Step.refl _ _) rl rb
theorem Dn.at{α β:Type}{rel:As -> Hp -> β -> α -> Prop}{as:As}{r:R α}{ρ:En}{Q:β -> Hp -> Prop}(h:Dn K rel as H (r.at ρ) Q)(en:Envs K as H ρ σ): @Dn (XW.of (XE.sk XW.xk σ)) α β K rel as H r Q:=by
 cases r with
 |ok a s=> exact h
 |bad=> exact h
 |ex n ρ' s=> exact fun as' H' p σ' st rl _ e=> ⟨p,rfl,h as' H' p σ st rl (en.mono st) e⟩
theorem Dn.calm{α β:Type}{rel:As -> Hp -> β -> α -> Prop}{as:As}{r:R α}{Q:β -> Hp -> Prop}(h:Dn K rel as H r.calm Q): @Dn XW.dft α β K rel as H r Q:=by
 cases r with
 |ok a s=> exact h
 |bad=> exact h
 |ex n ρ' s=> exact h.elim
abbrev rD(K:am):As -> Hp -> V -> D -> Prop:=fun as H v d=> RD K as H v d
abbrev rB:As -> Hp -> Bool -> Bool -> Prop:=fun _ _ b a=> b=a
abbrev rL(K:am):As -> Hp -> List V -> List D -> Prop:=fun as H v d=> RDs K as H v d
inductive Fl where
 |nx (ρ:En)|rt (d:D)|bk (ρ:En)|ct (ρ:En)
inductive FV where
 |nx (σ:St)|rt (v:V)|bk (σ:St)|ct (σ:St)
inductive rF (K:am) (as:As) (H:Hp):FV -> Fl -> Prop
 |nx {σ:St} {ρ:En}:Envs K as H ρ σ -> rF K as H (.nx σ) (.nx ρ)
 |rt {v:V} {d:D}:RD K as H v d -> rF K as H (.rt v) (.rt d)
 |bk {σ:St} {ρ:En}:Envs K as H ρ σ -> rF K as H (.bk σ) (.bk ρ)
 |ct {σ:St} {ρ:En}:Envs K as H ρ σ -> rF K as H (.ct σ) (.ct ρ)
def yh(D:Ends)(f:FV)(H:Hp):Prop:=match f with
 |.nx σ=> D.nx σ H
 |.rt v=> D.rt v H
 |.bk σ=> D.bk σ H
 |.ct σ=> D.ct σ H
abbrev FE:=En -> S -> R D
abbrev FT:=En -> S -> R Bool
abbrev FA:=En -> S -> R (List D)
abbrev FS:=En -> S -> R Fl
def aaz(K:am)(t:TE)(f:FE):Prop:= ∀as σ H ρ s Q,Rel K as H s -> Envs K as H ρ σ -> Dn K (rD K) as H (f ρ s) Q -> t σ H Q
def ac7(K:am)(t:TT)(f:FT):Prop:= ∀as σ H ρ s Q,Rel K as H s -> Envs K as H ρ σ -> Dn K rB as H (f ρ s) Q -> t σ H Q
def a4h(K:am)(t:TA)(f:FA):Prop:= ∀as σ H ρ s Q,Rel K as H s -> Envs K as H ρ σ -> Dn K (rL K) as H (f ρ s) Q -> t σ H Q
def ahh(K:am)(t:TS)(f:FS):Prop:= ∀as σ H ρ s D,Rel K as H s -> Envs K as H ρ σ -> Dn K (rF K) as H (f ρ s) (yh D) -> t D σ H
structure RE (X:Cx) (e:Expr) (f:FE):Prop where
 ex: ∃t,PE X e t/\aaz X.K t f
structure RT (X:Cx) (e:Expr) (f:FT):Prop where
 ex: ∃t,PT X e t/\ac7 X.K t f
structure RW (X:Cx) (e:Expr) (f:FT):Prop where
 ex: ∃t,PW X e t/\ac7 X.K t f
structure RA (X:Cx) (es:List Expr) (f:FA):Prop where
 ex: ∃t,PA X es t/\a4h X.K t f
structure RS (X:Cx) (st:Stmt) (f:FS):Prop where
 ex: ∃t,PS X st t/\ahh X.K t f
structure RSs (X:Cx) (st:List Stmt) (f:FS):Prop where
 ex: ∃t,PSs X st t/\ahh X.K t f
section
variable{X:Cx}{a b:Expr}{fa fb:FE}{pos:Pos}
noncomputable def jb(i:Nat):FE:=fun ρ s=> match ρ[i]? with
 |some (some d)=>.ok d s
 |_=>.bad
noncomputable def fC(d:D):FE:=fun _ s=>.ok d s
theorem a0e(i:Nat):aaz K (aw9 i) (jb i):=by
 intro as σ H ρ s Q rl en h
 unfold jb at h
 cases q:ρ[i]? with
 |none=> rw [q]at h;exact h.elim
 | some o=>
  cases o with
  |none=> rw [q]at h;exact h.elim
  |some d=>
   rw [q]at h
   obtain⟨v,e,r⟩:=en.get i d q
   exact⟨v,e,Dn.now h rl r⟩
theorem j7(i:Nat){x:Str}(hN:X.N[i]?=some x:=by rfl)(hv:Vis X.env.scope x:=by first|exact dB rfl|exact fD (dB rfl)|exact fD (fD rfl))(hd:(x==("__debug__":Str))=false:=by decide)(hcd:(x==("__classdict__":Str))=false:=by decide):RE X (.Name x pos) (jb i):=⟨_,auk hN hv hd hcd,a0e i⟩
theorem ago{d:D}(r: ∀as H,RD K as H v d):aaz K (tC v) (fC d):=fun as σ H ρ s Q rl en h=> Dn.now (K:=K) (rel:=rD K) h rl (r as H)
theorem aud{i j pos}:RE X (.Constant (.int i) j pos) (fC (.int i)):=⟨_,at8,ago fun _ _=>.da (.int i)⟩
theorem ado{x j pos}:RE X (.Constant (.str x) j pos) (fC (.str x)):=⟨_,atf,ago fun _ _=>.da (.str x)⟩
theorem a74{b j pos}:RE X (.Constant (.bool b) j pos) (fC (.bl b)):=⟨_,az4,ago fun _ _=>.da (.bl b)⟩
theorem bbv{j pos}:RE X (.Constant .none j pos) (fC .non):=⟨_,ast,ago fun _ _=>.da .non⟩
theorem aj6{x:Str}{u:af}{d:D}(r: ∀as H,RD X.K as H v d)(hm:X.mg x=some u)(rv:RelV v u)(hg:Gl X x:=by rfl)(hd:(x==("__debug__":Str))=false:=by decide):RE X (.Name x pos) (fC d):=⟨_,a31 hg hm rv hd,ago r⟩
theorem ac0{x:Str}{n:String}(hm:X.mg x=none)(hv:bo x=some (.type n))(hg:Gl X x:=by rfl)(hn:x≠"__name__":=by decide)(hd:(x==("__debug__":Str))=false:=by decide):RE X (.Name x pos) (fC (.ty n)):=
 ⟨_,a0z (v:=.ty n) hg hm hv rfl hn hd,ago fun _ _=>.ty n⟩
def fOp(g:D -> D -> S -> R D)(fa fb:FE):FE:=fun ρ s=> (fa ρ s).bind fun x s1=> (fb ρ s1).bind fun y s2=> g x y s2
def anv(K:am)(r:R2)(g:D -> D -> S -> R D):Prop:= ∀as H s x y dx dy Q,Rel K as H s -> RD K as H x dx -> RD K as H y dy -> Dn K (rD K) as H (g dx dy s) Q -> r x y H Q
theorem aia{r:R2}{g:D -> D -> S -> R D}(hr:anv K r g)(ha:aaz K ta fa)(hb:aaz K tb fb):aaz K (tOp r ta tb) (fOp g fa fb):=by
 intro as σ H ρ s Q rl en h
 refine ha as σ H ρ s _ rl en (Dn.bind h fun d1 s1 as1 H1 x st1 rl1 r1 h1=> ?_)
 refine hb as1 σ H1 ρ s1 _ rl1 (en.mono st1) (Dn.bind h1 fun d2 s2 as2 H2 y st2 rl2 r2 h2=> ?_)
 exact hr as2 H2 s2 x y d1 d2 Q rl2 (r1.mono st2) r2 h2
structure Op2 (X:Cx) (f:af -> af -> Sem af) (g:D -> D -> S -> R D):Prop where
 ex: ∃r,OpR X f r/\anv X.K r g
theorem a7y{op:lV}{g:D -> D -> S -> R D}(o:Op2 X (binaryOp op) g)(ha:RE X a fa)(hb:RE X b fb):RE X (.BinOp a op b pos) (fOp g fa fb):=by
 obtain⟨r,ho,hr⟩:=o.ex
 obtain⟨ta,pa,ra⟩:=ha.ex
 obtain⟨tb,pb,rb⟩:=hb.ex
 exact⟨_,a7h ho pa pb,aia hr ra rb⟩
theorem bbi{g:D -> D -> S -> R D}(o:Op2 X (aY op) g)(ha:RE X a fa)(hb:RE X b fb)(hm:fR op b=false:=by first|exact aui _|with_unfolding_all rfl):RE X (.Compare a [op] [b] pos) (fOp g fa fb):=by
 obtain⟨r,ho,hr⟩:=o.ex
 obtain⟨ta,pa,ra⟩:=ha.ex
 obtain⟨tb,pb,rb⟩:=hb.ex
 exact⟨_,a26 ho pa pb hm,aia hr ra rb⟩
def ji(f:FE):FT:=fun ρ s=> (f ρ s).bind fun d s1=> match d with
 |.bl k=>.ok k s1
 |_=>.bad
theorem alu{t:TE}{f:FE}(h:aaz K t f):ac7 K (ari t) (ji f):=by
 intro as σ H ρ s Q rl en q
 refine h as σ H ρ s _ rl en (Dn.bind q fun d1 s1 as1 H1 x st1 rl1 r1 h1=> ?_)
 cases r1 with
 |da t=>
  cases t with
  |bl k=> exact⟨k,rfl,Dn.now h1 rl1 rfl⟩
  |_=> exact h1.elim
 |_=> exact h1.elim
theorem atb{g:D -> D -> S -> R D}(o:Op2 X (aY op) g)(ha:RE X a fa)(hb:RE X b fb)(hm:fR op b=false:=by first|exact aui _|with_unfolding_all rfl):RT X (.Compare a [op] [b] pos) (ji (fOp g fa fb)):=by
 obtain⟨r,ho,hr⟩:=o.ex
 obtain⟨ta,pa,ra⟩:=ha.ex
 obtain⟨tb,pb,rb⟩:=hb.ex
 exact⟨_,a1d ho pa pb hm,alu (aia hr ra rb)⟩
def v0(g g':D -> D -> S -> R D)(fa fb fc:FE):FE:=fun ρ s=> (fa ρ s).bind fun x s1=> (fb ρ s1).bind fun y s2=> (g x y s2).bind fun z s3=> match z with
 |.bl true=> (fc ρ s3).bind fun w s4=> g' y w s4
 |.bl false=>.ok (.bl false) s3
 |_=>.bad
theorem akt{r r':R2}{g g':D -> D -> S -> R D}{tc:TE}{fc:FE}(hr:anv K r g)(hr':anv K r' g')(ha:aaz K ta fa)(hb:aaz K tb fb)(hc:aaz K tc fc):aaz K (ana r r' ta tb tc) (v0 g g' fa fb fc):=by
 intro as σ H ρ s Q rl en h
 refine ha as σ H ρ s _ rl en (Dn.bind h fun d1 s1 as1 H1 x st1 rl1 r1 h1=> ?_)
 refine hb as1 σ H1 ρ s1 _ rl1 (en.mono st1) (Dn.bind h1 fun d2 s2 as2 H2 y st2 rl2 r2 h2=> ?_)
 refine hr as2 H2 s2 x y d1 d2 _ rl2 (r1.mono st2) r2 (Dn.bind h2 fun d3 s3 as3 H3 z st3 rl3 r3 h3=> ?_)
 cases r3 with
 | da t=>
  cases t with
  | bl k=>
   cases k with
   |false=> exact⟨false,rfl,Dn.now h3 rl3 (.da (.bl false))⟩
   |true=>
    refine⟨true,rfl,?_⟩
    rw [if_pos rfl]
    refine hc as3 σ H3 ρ s3 _ rl3 (((en.mono st1).mono st2).mono st3) (Dn.bind h3 fun d4 s4 as4 H4 w st4 rl4 r4 h4=> ?_)
    exact hr' as4 H4 s4 y w d2 d4 Q rl4 ((r2.mono st3).mono st4) r4 h4
  |_=> exact h3.elim
 |_=> exact h3.elim
theorem a9a{op':nc}{g g':D -> D -> S -> R D}{fc:FE}(o:Op2 X (aY op) g)(o':Op2 X (aY op') g')(ha:RE X a fa)(hb:RE X b fb)(hc:RE X c fc)(hm:mP [op,op'] [b,c]=false:=by with_unfolding_all rfl):RE X (.Compare a [op,op'] [b,c] pos) (v0 g g' fa fb fc):=by
 obtain⟨r,ho,hr⟩:=o.ex
 obtain⟨r',ho',hr'⟩:=o'.ex
 obtain⟨ta,pa,ra⟩:=ha.ex
 obtain⟨tb,pb,rb⟩:=hb.ex
 obtain⟨tc,pc,rc⟩:=hc.ex
 exact⟨_,ayv ho ho' pa pb pc hm,akt hr hr' ra rb rc⟩
theorem a9o{op':nc}{g g':D -> D -> S -> R D}{fc:FE}(o:Op2 X (aY op) g)(o':Op2 X (aY op') g')(ha:RE X a fa)(hb:RE X b fb)(hc:RE X c fc)(hm:mP [op,op'] [b,c]=false:=by with_unfolding_all rfl):RT X (.Compare a [op,op'] [b,c] pos) (ji (v0 g g' fa fb fc)):=by
 obtain⟨r,ho,hr⟩:=o.ex
 obtain⟨r',ho',hr'⟩:=o'.ex
 obtain⟨ta,pa,ra⟩:=ha.ex
 obtain⟨tb,pb,rb⟩:=hb.ex
 obtain⟨tc,pc,rc⟩:=hc.ex
 exact⟨_,aws ho ho' pa pb pc hm,alu (akt hr hr' ra rb rc)⟩
def qf(f g:FT):FT:=fun ρ s=> (f ρ s).bind fun c s1=> if c=true then g ρ s1 else .ok false s1
def qz(f g:FT):FT:=fun ρ s=> (f ρ s).bind fun c s1=> if c=true then .ok true s1 else g ρ s1
def jv(f:FT):FT:=fun ρ s=> (f ρ s).bind fun c s1=>.ok (!c) s1
theorem a2a{t u:TT}{f g:FT}(h1:ac7 K t f)(h2:ac7 K u g):ac7 K (a43 t u) (qf f g):=by
 intro as σ H ρ s Q rl en h
 refine h1 as σ H ρ s _ rl en (Dn.bind h fun c s1 as1 H1 b st1 rl1 r1 q1=> ?_)
 have e1:b=c:=r1
 subst e1
 cases b with
 |true=> rw [if_pos rfl]at q1⊢;exact h2 as1 σ H1 ρ s1 Q rl1 (en.mono st1) q1
 |false=> rw [if_neg aq]at q1⊢;exact Dn.now q1 rl1 rfl
theorem a3n{t u:TT}{f g:FT}(h1:ac7 K t f)(h2:ac7 K u g):ac7 K (tOr t u) (qz f g):=by
 intro as σ H ρ s Q rl en h
 refine h1 as σ H ρ s _ rl en (Dn.bind h fun c s1 as1 H1 b st1 rl1 r1 q1=> ?_)
 have e1:b=c:=r1
 subst e1
 cases b with
 |false=> rw [if_neg aq]at q1⊢;exact h2 as1 σ H1 ρ s1 Q rl1 (en.mono st1) q1
 |true=> rw [if_pos rfl]at q1⊢;exact Dn.now q1 rl1 rfl
theorem a27{t:TT}{f:FT}(h1:ac7 K t f):ac7 K (a4l t) (jv f):=by
 intro as σ H ρ s Q rl en h
 refine h1 as σ H ρ s _ rl en (Dn.bind h fun c s1 as1 H1 b st1 rl1 r1 q1=> ?_)
 have e1:b=c:=r1
 subst e1
 exact Dn.now q1 rl1 rfl
theorem RW.rt{f:FT}(h:RW X e f):RT X e f:=let ⟨t,p,r⟩:=h.ex;⟨t,p.pt,r⟩
theorem bb3{f:FT}(h:RT X a f):RW X (.BoolOp .And [a] pos) f:=let ⟨t,p,r⟩:=h.ex;⟨t,a29 p,r⟩
theorem a41{f:FT}(h:RT X a f):RW X (.BoolOp .Or [a] pos) f:=let ⟨t,p,r⟩:=h.ex;⟨t,a5i p,r⟩
theorem bcm{f g:FT}{jt:List Expr}(h:RT X a f)(k:RW X (.BoolOp .And (b::jt) pos) g):RW X (.BoolOp .And (a::b::jt) pos) (qf f g):=let ⟨t,p,r⟩:=h.ex;let ⟨t',p',r'⟩:=k.ex;⟨_,a5y p p',a2a r r'⟩
theorem azf{f g:FT}{jt:List Expr}(h:RT X a f)(k:RW X (.BoolOp .Or (b::jt) pos) g):RW X (.BoolOp .Or (a::b::jt) pos) (qz f g):=let ⟨t,p,r⟩:=h.ex;let ⟨t',p',r'⟩:=k.ex;⟨_,a7j p p',a3n r r'⟩
theorem afw{f:FT}(h:RT X a f):RT X (.UnaryOp .Not a pos) (jv f):=let ⟨t,p,r⟩:=h.ex;⟨_,a45 p,a27 r⟩
def xh(fa fb:FE):FE:=fun ρ s=> (fa ρ s).bind fun d s1=> match d with
 |.bl true=> fb ρ s1
 |.bl false=>.ok (.bl false) s1
 |_=>.bad
def fOr(fa fb:FE):FE:=fun ρ s=> (fa ρ s).bind fun d s1=> match d with
 |.bl false=> fb ρ s1
 |.bl true=>.ok (.bl true) s1
 |_=>.bad
def awl(fa:FE):FE:=fun ρ s=> (fa ρ s).bind fun d s1=> match d with
 |.bl k=>.ok (.bl (!k)) s1
 |_=>.bad
theorem bc7{op}(h:RE X a fa):RE X (.BoolOp op [a] pos) fa:=let ⟨t,p,r⟩:=h.ex;⟨_,a3f p,r⟩
theorem bbw{jt:List Expr}(h:RE X a fa)(k:RE X (.BoolOp .And (b::jt) pos) fb):RE X (.BoolOp .And (a::b::jt) pos) (xh fa fb):=by
 obtain⟨ta,pa,ra⟩:=h.ex
 obtain⟨tb,pb,rb⟩:=k.ex
 refine⟨_,a6e pa pb,fun as σ H ρ s Q rl en h=> ?_⟩
 refine ra as σ H ρ s _ rl en (Dn.bind h fun d1 s1 as1 H1 x st1 rl1 r1 h1=> ?_)
 cases r1 with
 | da t=>
  cases t with
  |bl k=>
   refine⟨k,rfl,?_⟩
   cases k with
   |false=> rw [if_neg aq];exact Dn.now h1 rl1 (.da (.bl false))
   |true=> rw [if_pos rfl];exact rb as1 σ H1 ρ s1 Q rl1 (en.mono st1) h1
  |_=> exact h1.elim
 |_=> exact h1.elim
theorem bdf{jt:List Expr}(h:RE X a fa)(k:RE X (.BoolOp .Or (b::jt) pos) fb):RE X (.BoolOp .Or (a::b::jt) pos) (fOr fa fb):=by
 obtain⟨ta,pa,ra⟩:=h.ex
 obtain⟨tb,pb,rb⟩:=k.ex
 refine⟨_,a79 pa pb,fun as σ H ρ s Q rl en h=> ?_⟩
 refine ra as σ H ρ s _ rl en (Dn.bind h fun d1 s1 as1 H1 x st1 rl1 r1 h1=> ?_)
 cases r1 with
 | da t=>
  cases t with
  |bl k=>
   refine⟨k,rfl,?_⟩
   cases k with
   |true=> rw [if_pos rfl];exact Dn.now h1 rl1 (.da (.bl true))
   |false=> rw [if_neg aq];exact rb as1 σ H1 ρ s1 Q rl1 (en.mono st1) h1
  |_=> exact h1.elim
 |_=> exact h1.elim
theorem bb9(h:RE X a fa):RE X (.UnaryOp .Not a pos) (awl fa):=by
 obtain⟨ta,pa,ra⟩:=h.ex
 refine⟨_,a5o pa,fun as σ H ρ s Q rl en h=> ?_⟩
 refine ra as σ H ρ s _ rl en (Dn.bind h fun d1 s1 as1 H1 x st1 rl1 r1 h1=> ?_)
 cases r1 with
 |da t=>
  cases t with
  |bl k=> exact⟨k,rfl,Dn.now h1 rl1 (.da (.bl (!k)))⟩
  |_=> exact h1.elim
 |_=> exact h1.elim
def fIf(c:FT)(fa fb:FE):FE:=fun ρ s=> (c ρ s).bind fun k s1=> if k=true then fa ρ s1 else fb ρ s1
theorem bdk{fc:FT}(hc:RT X c fc)(ha:RE X a fa)(hb:RE X b fb):RE X (.IfExp c a b pos) (fIf fc fa fb):=by
 obtain⟨tc,pc,rc⟩:=hc.ex
 obtain⟨ta,pa,ra⟩:=ha.ex
 obtain⟨tb,pb,rb⟩:=hb.ex
 refine⟨_,avi pc pa pb,fun as σ H ρ s Q rl en h=> ?_⟩
 refine rc as σ H ρ s _ rl en (Dn.bind h fun d1 s1 as1 H1 x st1 rl1 r1 h1=> ?_)
 have e1:x=d1:=r1
 subst e1
 cases x with
 |true=> rw [if_pos rfl]at h1⊢;exact ra as1 σ H1 ρ s1 Q rl1 (en.mono st1) h1
 |false=> rw [if_neg aq]at h1⊢;exact rb as1 σ H1 ρ s1 Q rl1 (en.mono st1) h1
noncomputable def jc:FA:=fun _ s=>.ok [] s
def ja(f:FE)(g:FA):FA:=fun ρ s=> (f ρ s).bind fun x s1=> (g ρ s1).bind fun xs s2=>.ok (x::xs) s2
noncomputable def fVs(ds:List D):FA:=fun _ s=>.ok ds s
theorem k8:RA X [] jc:=⟨_,ai1,fun as σ H ρ s Q rl en h=> Dn.now h rl .nil⟩
theorem ju{f:FE}{g:FA}(h:RE X e f)(k:RA X es g)(hs:starEach (e::es) X.env=(false,eval e X.env)::starEach es X.env:=by rfl):RA X (e::es) (ja f g):=by
 obtain⟨t,p,r⟩:=h.ex
 obtain⟨t',p',r'⟩:=k.ex
 refine⟨_,agd p p' hs,fun as σ H ρ s Q rl en h=> ?_⟩
 refine r as σ H ρ s _ rl en (Dn.bind h fun d1 s1 as1 H1 x st1 rl1 r1 h1=> ?_)
 refine r' as1 σ H1 ρ s1 _ rl1 (en.mono st1) (Dn.bind h1 fun d2 s2 as2 H2 xs st2 rl2 r2 h2=> ?_)
 exact Dn.now h2 rl2 (.cons (r1.mono st2) r2)
noncomputable def arc:Const -> Option ag
 |.str x=> some (.str x)
 |.int i=> some (.int i)
 |.bool b=> some (.bool b)
 |.none=> some .none
 |_=> none
def agg:List Expr -> Option (List ag)
 |[]=> some []
 | .Constant c _ _::r=> match arc c with
  |some v=> match agg r with
   |some vs=> some (v::vs)
   |none=> none
  |none=> none
 |_=> none
noncomputable def pV:ag -> V
 |.none=>.non
 |.bool b=>.bl b
 |.int i=>.int i
 |.str x=>.str x
 |_=>.non
theorem a3o{c:Const}{d:ag}(h:arc c=some d):anz c=some (pV d)/\ ∀as H,TD as H (pV d) d:=by
 cases c <;> simp [arc]at h <;> subst h
 all_goals first
  |exact⟨rfl,fun _ _=>.str _⟩
  |exact⟨rfl,fun _ _=>.int _⟩
  |exact⟨rfl,fun _ _=>.bl _⟩
  |exact⟨rfl,fun _ _=>.non⟩
theorem apl: ∀{es:List Expr} {ds:List ag},agg es=some ds -> aet es=some (ds.map pV)/\ ∀as H,TDs as H (ds.map pV) ds
 |[],ds,h=> by cases h;exact⟨rfl,fun _ _=>.nil⟩
 | e ::es,ds,h=> by
  cases e with
  | Constant c j pos=>
   simp only [agg]at h
   cases h1:arc c with
   |none=> (rw [h1]at h;cases h)
   | some v=>
    rw [h1]at h
    cases h2:agg es with
    |none=> rw [h2]at h;cases h
    |some ws=>
     rw [h2]at h
     cases h
     obtain⟨a1,a2⟩:=a3o h1
     obtain⟨b1,b2⟩:=apl h2
     exact⟨by simp only [aet,a1,b1,aP],fun as H=>.cons (a2 as H) (b2 as H)⟩
  |_=> simp [agg]at h
theorem atc{ds:List ag}(h:agg es=some ds):RA X es (fVs (ds.map D.da)):=by
 obtain⟨a,b⟩:=apl h
 exact⟨_,akg a,fun as σ H ρ s Q rl en h=> Dn.now h rl (b as H).rd⟩
def vw(m:Bool)(ds:List D)(s:S):R D:=if m=true then .ok (.ref s.length) (s++ [.lst ds]) else match kq ds with
 |some xs=>.ok (.lst xs) s
 |none=>.bad
def ahf(ds:List D)(s:S):R D:=match kq ds with
 |some xs=>.ok (.tup xs) s
 |none=>.bad
theorem aar{as:As}{s:S}{m:Bool}{ds:List D}{Q:VK}(h:Dn K (rD K) as H (vw m ds s) Q)(rl:Rel K as H s)(r:RDs K as H xs ds)(n:New H p (.lst xs) H'):Q (.ref p) H':=by
 unfold vw at h
 cases m with
 |true=>
  rw [if_pos rfl]at h
  refine h (.ref p) (as.add p) H' (ad1 n) (rl.laid n ⟨xs,n.at,r.mono (ad1 n)⟩) (.ref (by simp [rl.len]) fun q e=> ?_)
  rw [←rl.len]at e
  simp at e
  exact e.symm
 | false=>
  rw [if_neg aq]at h
  cases q:kq ds with
  |none=> rw [q]at h;exact h.elim
  |some ys=>
   rw [q]at h
   have e:=zr q
   subst e
   exact h (.ref p) as H' (j6 n) (rl.new n) (.da (.lst (fun z=> rl.has z n.no) n.at (r.td.mono (j6 n))))
theorem aq5{as:As}{s:S}{ds:List D}{Q:VK}(h:Dn K (rD K) as H (ahf ds s) Q)(rl:Rel K as H s)(r:RDs K as H xs ds)(n:New H p (.tup xs) H'):Q (.ref p) H':=by
 unfold ahf at h
 cases q:kq ds with
 |none=> rw [q]at h;exact h.elim
 |some ys=>
  rw [q]at h
  have e:=zr q
  subst e
  exact h (.ref p) as H' (j6 n) (rl.new n) (.da (.tup (fun z=> rl.has z n.no) n.at (r.td.mono (j6 n))))
def kv(m:Bool)(f:FA):FE:=fun ρ s=> (f ρ s).bind fun ds s1=> if ds.length <=sizeLine then vw m ds s1 else .bad
def jj(f:FA):FE:=fun ρ s=> (f ρ s).bind fun ds s1=> if ds.length <=sizeLine then ahf ds s1 else .bad
theorem bcb{f:FA}(m:Bool)(h:RA X es f):RE X (.List es pos) (kv m f):=by
 obtain⟨t,p,r⟩:=h.ex
 refine⟨_,a0i p,fun as σ H ρ s Q rl en h=> ?_⟩
 refine r as σ H ρ s _ rl en (Dn.bind h fun ds s1 as1 H1 xs st1 rl1 r1 h1=> ?_)
 split at h1
 ·rename_i hz
  exact⟨by rw [r1.length];exact hz,fun p H' n=> aar h1 rl1 r1 n⟩
 ·exact h1.elim
theorem a61{f:FA}{x1:Nat}(h:RA X es f):RE X (.Tuple es x1 pos) (jj f):=by
 obtain⟨t,p,r⟩:=h.ex
 refine⟨_,a14 p,fun as σ H ρ s Q rl en h=> ?_⟩
 refine r as σ H ρ s _ rl en (Dn.bind h fun ds s1 as1 H1 xs st1 rl1 r1 h1=> ?_)
 split at h1
 ·rename_i hz
  exact⟨by rw [r1.length];exact hz,fun p H' n=> aq5 h1 rl1 r1 n⟩
 ·exact h1.elim
end
end PF
namespace L2
open PySem PySem.Spec PyProof.Rows
theorem al9{it t:Addr}{items:Array af}(hne:t≠it): ∀(n i:Nat) (s:ak) (Q:List af -> ak -> Prop),s.heap.IsListIter it t i -> s.heap.IsList t items -> i+n <=items.size ->
  (∀h',h'.IsListIter it t (i+n) -> bJ it s.heap h' -> Q ((items.toList.drop i).take n) {s with heap:=h'}) -> wpAny (model prog w) A (draw (.ref it) n) Q E s
 |0,i,s,Q,hit,_,_,hQ=> by --
  show wpAny _ _ (pure []) Q E s --
  (exact ah (by simpa using hQ s.heap hit (jH ..)))
 | n+1,i,s,Q,hit,ht,hle,hQ=> by --
  (have hlt:i < items.size:=by lia)
  show wpAny _ _ (pyNext (.ref it)>>=_) Q E s --
  refine ae (lq hit ht (x:=items[i]) (by simp [hlt]) fun h₁ hit₁ hs₁=> ?_)
  have ht₁:h₁.IsList t items:=by
   obtain⟨o,ho,c⟩:=ht
   exact⟨o,hs₁.extBut t o hne ho,c⟩
  refine ae (bC (al9 hne n (i+1) _ _ hit₁ ht₁ (by lia) fun h₂ hit₂ hs₂=> ah ?_))
  (have hd:items.toList.drop i=items[i]::items.toList.drop (i+1):=by simp [eB,hlt])
  (have:=hQ h₂ (by rw [show i+(n+1)=i+1+n by lia];exact hit₂) (hs₁.trans hs₂))
  (rw [hd,List.take_succ_cons]at this)
  exact this
theorem ahl{t:Addr}{Q:List af -> ak -> Prop}(hh:A.handled=none)(ht:s.heap.IsList t items)(hQ: ∀h',fj s.heap.objs.size s.heap h' -> Q items.toList {s with heap:=h'}):wpAny (model prog w) A (unpackItems (.ref t) items.size none) Q E s:=by
 (have hlt:t≠s.heap.objs.size:=by obtain⟨o,ho,_⟩:=ht;exact aR (ay ho))
 have up: ∀h':Heap,fj s.heap.objs.size s.heap h' -> h'.IsList t items:=fun h' x=> by
  obtain⟨o,ho,c⟩:=ht
  exact⟨o,x t o hlt ho,c⟩
 unfold unpackItems
 refine ae ?_
 unfold notIterableAtAll
 refine ae (dW ht.typeIs slot_list_iter.lookup ?_)
 refine ah ?_
 (simp only [cc,if_false])
 refine ae (bC (eg ht ?_))
 refine ae (bC (al9 hlt items.size 0 _ _ ⟨_,aA _ rfl,rfl,rfl⟩ (up _ fun b o hb e=> aj _ e) (by lia) fun h₁ hit₁ hs₁=> ?_))
 have hall:List.take items.size (List.drop 0 items.toList)=items.toList:=by --
  (rw [iH];exact dO (by simp))
 rw [hall]
 rw [if_neg (by simp)]
 have x₁:fj s.heap.objs.size s.heap h₁:=fun b o hb e=> hs₁.extBut b o hb (aj _ e)
 refine ae (bC (lB hh (by simpa using hit₁) (up _ x₁) (by simp) fun h₂ he₂=> ?_))
 (simp only [Option.isSome_none,cc,if_false])
 refine ah (hQ h₂ fun b o hb e=> he₂ b o hb (x₁ b o hb e))
theorem ags{elts:List Expr}{x1}{t:Addr}{Q:Unit -> ak -> Prop}(hh:A.handled=none)(ht:s.heap.IsList t items)(hn:(bF elts env).length=items.size)(hstar:(bF elts env).findIdx? (·.1)=none) --
  (h: ∀h',fj s.heap.objs.size s.heap h' -> wpAny (model prog w) A (assignInOrder ((bF elts env).map (·.2)) items.toList) Q E {s with heap:=h'}):
  wpAny (model prog w) A (assign (.Tuple elts x1 pos) env (.ref t)) Q E s:=by --
 rw [assign_Tuple]
 refine ae (fQ ?_)
 unfold unpack
 rw [hn,hstar]
 exact ae (bC (ahl hh ht h))
noncomputable def alq(K:am)(n:Nat)(t:TGs):TG:=fun v σ H Q=> ∃a xs,v=.ref a/\(SqT K H a xs\/SqL K H a xs)/\xs.length=n/\t xs σ H Q
theorem aot{t:TGs}(hc:X.calm=true)(h:PGs X es t)(hn:(bF es X.env).length=n:=by rfl)(hst:(bF es X.env).findIdx? (·.1)=none:=by rfl):PG X (.Tuple es k pos) (alq X.K n t):=by
 intro pins s σ H v u Q I r hw
 obtain⟨a,xs,e1,hq,hl,hw⟩:=hw
 rcases hq with hq|hq
 ·exact a6k hc h hn hst pins s σ H v u Q I r ⟨a,xs,e1,hq,hl,hw⟩
 ·subst e1
  cases r
  obtain⟨its,rv,⟨o,m,ho,hcl,_,hd⟩,hz⟩:=I.list hq
  refine ags (I.ok.hd hc) ⟨o,ho,hcl,m,hd⟩ (by simp [hn,←hl,rv.length]) hst fun h' hx=> ?_
  have I1:Inv X pins σ H {s with heap:=h'}:=I.kept (t':=s.toks) fun b o e=> hx b o (aR (ay e)) e
  exact h pins _ σ H xs _ Q I1 (by simpa using rv) hw
end L2
namespace PF
open PySem PySem.Spec
open L2
variable[XW]
noncomputable def tOf(K:am)(f:FE):TE:=fun σ H Q=> ∃as ρ s,Rel K as H s/\Envs K as H ρ σ/\Dn K (rD K) as H (f ρ s) Q
noncomputable def ami(K:am)(f:FT):TT:=fun σ H Q=> ∃as ρ s,Rel K as H s/\Envs K as H ρ σ/\Dn K rB as H (f ρ s) Q
noncomputable def avs(K:am)(f:FS):TS:=fun D σ H=> ∃as ρ s,Rel K as H s/\Envs K as H ρ σ/\Dn K (rF K) as H (f ρ s) (yh D)
theorem RE.pe{X:Cx}{e:Expr}{f:FE}(h:RE X e f):PE X e (tOf X.K f):=by
 obtain⟨t,p,r⟩:=h.ex
 exact p.weak fun σ H Q ⟨as,ρ,s,a,b,c⟩=> r as σ H ρ s Q a b c
theorem RT.pt{f:FT}(h:RT X e f):PT X e (ami X.K f):=by
 obtain⟨t,p,r⟩:=h.ex
 exact⟨fun pins s σ H Q I ⟨as,ρ,s',a,b,c⟩=> p pins s σ H Q I (r as σ H ρ s' Q a b c)⟩
inductive Tg where
 |nm (i:Nat)|t2 (a b:Tg)|t3 (a b c:Tg)|tn (is:List Nat)
def gNs:List Nat -> TGs
 |[]=> aqn
 |i::r=> aeg (alk i) (gNs r)
def gOf(K:am):Tg -> TG
 |.nm i=> alk i
 |.t2 a b=> alq K 2 (aeg (gOf K a) (aeg (gOf K b) aqn))
 |.t3 a b c=> alq K 3 (aeg (gOf K a) (aeg (gOf K b) (aeg (gOf K c) aqn)))
 |.tn is=> alq K is.length (gNs is)
noncomputable def arh:D -> Option (List D)
 |.tup ds=> some (ds.map D.da)
 |.lst ds=> some (ds.map D.da)
 |.con ds=> some (ds.map D.da)
 |_=> none
noncomputable def awp:List Nat -> List D -> En -> Option En
 |[],[],ρ=> some ρ
 |i::r,d::ds,ρ=> awp r ds (ρ.set i (some d))
 |_,_,_=> none
def vy:Tg -> D -> En -> Option En
 |.nm i,d,ρ=> some (ρ.set i (some d))
 | .t2 a b,d,ρ=> match arh d with
  |some [x,y]=> match vy a x ρ with
   |some ρ1=> vy b y ρ1
   |none=> none
  |_=> none
 | .t3 a b c,d,ρ=> match arh d with
  | some [x,y,z]=> match vy a x ρ with
   |some ρ1=> match vy b y ρ1 with
    |some ρ2=> vy c z ρ2
    |none=> none
   |none=> none
  |_=> none
 |.tn is,d,ρ=> match arh d with
  |some xs=> awp is xs ρ
  |none=> none
noncomputable def abr(k:Nat):Tg -> Bool
 |.nm i=> decide (i < k)
 |.t2 a b=> abr k a&&abr k b
 |.t3 a b c=> abr k a&&abr k b&&abr k c
 |.tn is=> is.all fun i=> decide (i < k)
def Fra(k:Nat)(σ σ':St):Prop:= ∀vs cap:St,vs.length=k -> σ=vs++cap -> ∃vs':St,vs'.length=k/\σ'=vs'++cap
theorem Fra.refl(k:Nat)(σ:St):Fra k σ σ:=fun vs cap h e=> ⟨vs,h,e⟩
theorem Fra.trans{a b c:St}(h1:Fra k a b)(h2:Fra k b c):Fra k a c:=fun vs cap h e=> by
 obtain⟨v1,l1,e1⟩:=h1 vs cap h e
 exact h2 v1 cap l1 e1
theorem ajy{as:As}{d:D}{ds:List D}(r:RD K as H v d)(h:arh d=some ds): ∃p xs,v=.ref p/\(SqT K H p xs\/SqL K H p xs)/\RDs K as H xs ds:=by
 cases r with
 |da t=>
  cases t with
  |tup n e r=> cases h;exact⟨_,_,rfl,.inl (SqT.of e),r.rd⟩
  |lst n e r=> cases h;exact⟨_,_,rfl,.inr (SqL.of e),r.rd⟩
  |_=> cases h
 |con q r=> cases h;exact⟨_,_,rfl,.inl (q H),r.rd⟩
 |_=> cases h
theorem asl{K:am}{as:As}{H:Hp}{ρ':En}{Q:St -> Hp -> Prop}: ∀(is:List Nat) {xs:List V} {ds:List D} {σ:St} {ρ:En},Envs K as H ρ σ -> RDs K as H xs ds -> awp is ds ρ=some ρ' ->
  (∀σ',Envs K as H ρ' σ' -> (∀k,(is.all fun i=> decide (i < k))=true -> Fra k σ σ') -> Q σ' H) -> xs.length=is.length/\gNs is xs σ H Q
 |[],_,_,σ,ρ,en,rs,e,h=> by
  cases rs with
  |nil=> cases e;exact⟨rfl,rfl,h σ en fun k _=> Fra.refl k σ⟩
  |cons _ _=> cases e
 | i::r,_,_,σ,ρ,en,rs,e,h=> by
  cases rs with
  |nil=> cases e
  | @cons v _ d _ r1 rs=>
   obtain⟨hl,hg⟩:=asl r (en.set i r1) rs e (Q:=Q) fun σ' en' f=> h σ' en' fun k hk=> by
    rw [dJ,aG]at hk
    refine Fra.trans (fun vs cap hl z=> ?_) (f k hk.2)
    have hi:i < k:=of_decide_eq_true hk.1
    subst z
    exact⟨vs.set i (some v),by simpa using hl,by rw [lY _ _ (by lia)]⟩
   exact⟨by rw [aQ,aQ,hl],_,_,rfl,hg⟩
theorem abl{K:am}: ∀(tg:Tg) {as:As} {σ:St} {H:Hp} {ρ ρ':En} {v:V} {d:D} {Q:St -> Hp -> Prop},Envs K as H ρ σ -> RD K as H v d -> vy tg d ρ=some ρ' ->
  (∀σ',Envs K as H ρ' σ' -> (∀k,abr k tg=true -> Fra k σ σ') -> Q σ' H) -> gOf K tg v σ H Q
 |.nm i,as,σ,H,ρ,ρ',v,d,Q,en,r,e,h=> by
  cases e
  refine h (σ.set i (some v)) (en.set i r) fun k hk vs cap hl z=> ?_
  have hi:i < k:=of_decide_eq_true hk
  subst z
  exact⟨vs.set i (some v),by simpa using hl,by rw [lY _ _ (by lia)]⟩
 | .t2 a b,as,σ,H,ρ,ρ',v,d,Q,en,r,e,h=> by
  unfold vy at e
  split at e
  ·rename_i x y q
   obtain⟨p,xs,rfl,sq,rs⟩:=ajy r q
   cases rs with
   |cons r1 rs=>
   cases rs with
   |cons r2 rs=>
   cases rs
   split at e
   ·rename_i ρ1 q1
    refine⟨p,_,rfl,sq,rfl,_,_,rfl,abl a en r1 q1 fun σ1 en1 f1=> ⟨_,_,rfl,abl b en1 r2 e fun σ2 en2 f2=> ⟨rfl,h σ2 en2 fun k hk=> ?_⟩⟩⟩
    simp only [abr,aG]at hk
    exact (f1 k hk.1).trans (f2 k hk.2)
   ·cases e
  ·cases e
 | .t3 a b c,as,σ,H,ρ,ρ',v,d,Q,en,r,e,h=> by
  unfold vy at e
  split at e
  ·rename_i x y z q
   obtain⟨p,xs,rfl,sq,rs⟩:=ajy r q
   cases rs with
   |cons r1 rs=>
   cases rs with
   |cons r2 rs=>
   cases rs with
   |cons r3 rs=>
   cases rs
   split at e
   ·rename_i ρ1 q1
    split at e
    ·rename_i ρ2 q2
     refine⟨p,_,rfl,sq,rfl,_,_,rfl,abl a en r1 q1 fun σ1 en1 f1=> ⟨_,_,rfl,abl b en1 r2 q2 fun σ2 en2 f2=> ⟨_,_,rfl,abl c en2 r3 e fun σ3 en3 f3=> ⟨rfl,h σ3 en3 fun k hk=> ?_⟩⟩⟩⟩
     simp only [abr,aG]at hk
     exact ((f1 k hk.1.1).trans (f2 k hk.1.2)).trans (f3 k hk.2)
    ·cases e
   ·cases e
  ·cases e
 | .tn is,as,σ,H,ρ,ρ',v,d,Q,en,r,e,h=> by
  unfold vy at e
  split at e
  ·rename_i ys q
   obtain⟨p,xs,rfl,sq,rs⟩:=ajy r q
   obtain⟨hl,hg⟩:=asl is en rs e (Q:=Q) h
   exact⟨p,xs,rfl,sq,hl,hg⟩
  ·cases e
abbrev Wk:=List D×Option (Nat×List D)
abbrev FI:=En -> S -> R Wk
def yi(p:Wk)(s:S):Prop:=match p.2 with
 |none=> True
 |some q=> s[q.1]?=some (.lst q.2)
open Classical in
noncomputable def chk{α:Type}(p:Wk)(s:S)(k:R α):R α:=if yi p s then k else .bad
theorem aan{α:Type}{ds:List D}{s:S}{k:R α}:chk (ds,none) s k=k:=if_pos trivial
theorem ag8{α:Type}{p:Wk}{s:S}{k:R α}(h:yi p s):chk p s k=k:=if_pos h
theorem Dn.chk{α β:Type}{rel:As -> Hp -> β -> α -> Prop}{as:As}{p:Wk}{s:S}{r:R α}{Q:β -> Hp -> Prop}(h:Dn K rel as H (chk p s r) Q):yi p s/\Dn K rel as H r Q:=by
 by_cases c:yi p s
 ·rw [ag8 c]at h;exact⟨c,h⟩
 ·have e:PF.chk p s r=.bad:=if_neg c
  rw [e]at h;exact h.elim
def afk(K:am)(as:As)(H:Hp)(J:It)(p:Wk):Prop:= ∀as2 H2 s2,Step0 as H as2 H2 -> Rel K as2 H2 s2 -> yi p s2 -> ∀i:Nat,
 (p.1.length <=i -> J.stop i H2)/\ ∀d,p.1[i]?=some d -> J.go i H2/\ ∀x H3,J.yld i H2 x H3 -> Step as2 H2 as2 H3/\Rel K as2 H3 s2/\RD K as2 H3 x d
def a4r(K:am)(wi:TI)(f:FI):Prop:= ∀as σ H ρ s Q,Rel K as H s -> Envs K as H ρ σ -> Dn K (afk K) as H (f ρ s) Q -> wi σ H Q
structure RI (X:Cx) (tg iter:Expr) (f:FI):Prop where
 ex: ∃t,PI X tg iter t/\a4r X.K t f
structure RG (X:Cx) (tg:Expr) (g:Tg):Prop where
 pg:PG X tg (gOf X.K g)
section
variable{X:Cx}{a b:Expr}{fa fb:FE}{pos:Pos}
theorem adm{x:Str}(hN:X.N.Nodup)(hi:X.N[i]?=some x)(hx:Loc X.env.scope x)(hf:X.fn x=true\/X.env.scope.names.lookup x=some .local:=by first|exact .inl rfl|exact .inr rfl|assumption):RG X (.Name x pos) (.nm i):=⟨a18 hN hi hx hf⟩
theorem azy{e1 e2:Expr}{g1 g2:Tg}(hc:X.calm=true)(h1:RG X e1 g1)(h2:RG X e2 g2)(hn:(bF [e1,e2] X.env).length=2:=by rfl)(hst:(bF [e1,e2] X.env).findIdx? (·.1)=none:=by rfl)(s1:(bF [e1,e2] X.env).map (·.2)=assign e1 X.env::(bF [e2] X.env).map (·.2):=by rfl)(s2:(bF [e2] X.env).map (·.2)=assign e2 X.env::(bF [] X.env).map (·.2):=by rfl):RG X (.Tuple [e1,e2] k pos) (.t2 g1 g2):=
 ⟨aot hc (aci h1.pg (aci h2.pg aor s2) s1) hn hst⟩
theorem az9{e1 e2 e3:Expr}{g1 g2 g3:Tg}(hc:X.calm=true)(h1:RG X e1 g1)(h2:RG X e2 g2)(h3:RG X e3 g3)(hn:(bF [e1,e2,e3] X.env).length=3:=by rfl)(hst:(bF [e1,e2,e3] X.env).findIdx? (·.1)=none:=by rfl)(s1:(bF [e1,e2,e3] X.env).map (·.2)=assign e1 X.env::(bF [e2,e3] X.env).map (·.2):=by rfl)(s2:(bF [e2,e3] X.env).map (·.2)=assign e2 X.env::(bF [e3] X.env).map (·.2):=by rfl)(s3:(bF [e3] X.env).map (·.2)=assign e3 X.env::(bF [] X.env).map (·.2):=by rfl):RG X (.Tuple [e1,e2,e3] k pos) (.t3 g1 g2 g3):=
 ⟨aot hc (aci h1.pg (aci h2.pg (aci h3.pg aor s3) s2) s1) hn hst⟩
def jh(f:FE):FS:=fun ρ s=> (f ρ s).bind fun d s1=>.ok (.rt d) s1
def xa(f:FE):FS:=fun ρ s=> (f ρ s).bind fun _ s1=>.ok (.nx ρ) s1
noncomputable def jl:FS:=fun ρ s=>.ok (.nx ρ) s
def jw(i:Nat)(f:FE):FS:=fun ρ s=> (f ρ s).bind fun d s1=>.ok (.nx (ρ.set i (some d))) s1
def ar0(g:Tg)(f:FE):FS:=fun ρ s=> (f ρ s).bind fun d s1=> match vy g d ρ with
 |some ρ1=>.ok (.nx ρ1) s1
 |none=>.bad
def jp(c:FT)(f g:FS):FS:=fun ρ s=> (c ρ s).bind fun k s1=> if k=true then f ρ s1 else g ρ s1
def jf(f g:FS):FS:=fun ρ s=> (f ρ s).bind fun fl s1=> match fl with
 |.nx ρ1=> g ρ1 s1
 |fl=>.ok fl s1
theorem atl(h:RE X a fa):RS X (.Return (some a) pos) (jh fa):=by
 obtain⟨t,p,r⟩:=h.ex
 refine⟨_,a66 p,fun as σ H ρ s D rl en h=> ?_⟩
 exact r as σ H ρ s _ rl en (Dn.bind h fun d s1 as1 H1 v st1 rl1 r1 h1=> Dn.now (b:=FV.rt v) h1 rl1 (.rt r1))
theorem ag6(h:RE X a fa)(hs:gf a none pos.line X.env=pure false:=by rfl):RS X (.Expr a pos) (xa fa):=by
 obtain⟨t,p,r⟩:=h.ex
 refine⟨_,a2q p hs,fun as σ H ρ s D rl en h=> ?_⟩
 exact r as σ H ρ s _ rl en (Dn.bind h fun d s1 as1 H1 v st1 rl1 r1 h1=> Dn.now (b:=FV.nx σ) h1 rl1 (.nx (en.mono st1)))
theorem ans{x:Str}{pos':Pos}(hN:X.N.Nodup)(hi:X.N[i]?=some x)(hx:Loc X.env.scope x)(h:RE X a fa)(hs:gf a (some (.Name x pos')) pos.line X.env=pure false:=by rfl)(hf:X.fn x=true\/X.env.scope.names.lookup x=some .local:=by first|exact .inl rfl|exact .inr rfl|assumption):RS X (.Assign [.Name x pos'] a pos) (jw i fa):=by
 obtain⟨t,p,r⟩:=h.ex
 refine⟨_,a5t hN hi hx p hs hf,fun as σ H ρ s D rl en h=> ?_⟩
 exact r as σ H ρ s _ rl en (Dn.bind h fun d s1 as1 H1 v st1 rl1 r1 h1=> Dn.now (b:=FV.nx (σ.set i (some v))) h1 rl1 (.nx ((en.mono st1).set i r1)))
theorem a5l{g:Tg}(h:RE X a fa)(hg:RG X tg g)(hs:mf [tg] a pos.line X.env=pure false:=by rfl)(hw:mh [tg] a X.env=pure none:=by rfl)(h1:(bF [tg] X.env).map (·.2)=[assign tg X.env]:=by rfl):RS X (.Assign [tg] a pos) (ar0 g fa):=by
 obtain⟨t,p,r⟩:=h.ex
 refine⟨_,asn p hg.pg hs hw h1,fun as σ H ρ s D rl en h=> ?_⟩
 refine r as σ H ρ s _ rl en (Dn.bind h fun d s1 as1 H1 v st1 rl1 r1 h1=> ?_)
 split at h1
 ·rename_i ρ1 q
  exact abl g (en.mono st1) r1 q fun σ' en' _=> Dn.now (b:=FV.nx σ') h1 rl1 (.nx en')
 ·exact h1.elim
theorem ag9{st su:List Stmt}{fc:FT}{f g:FS}(hc:RT X c fc)(h1:RSs X st f)(h2:RSs X su g):RS X (.If c st su pos) (jp fc f g):=by
 obtain⟨tc,pc,rc⟩:=hc.ex
 obtain⟨t,p,r⟩:=h1.ex
 obtain⟨t',p',r'⟩:=h2.ex
 refine⟨_,a7d pc p p',fun as σ H ρ s D rl en h=> ?_⟩
 refine rc as σ H ρ s _ rl en (Dn.bind h fun k s1 as1 H1 x st1 rl1 r1 h1=> ?_)
 have e1:x=k:=r1
 subst e1
 cases x with
 |true=> rw [if_pos rfl]at h1⊢;exact r as1 σ H1 ρ s1 D rl1 (en.mono st1) h1
 |false=> rw [if_neg aq]at h1⊢;exact r' as1 σ H1 ρ s1 D rl1 (en.mono st1) h1
theorem ae2:RSs X [] jl:=⟨_,a05,fun as σ H ρ s D rl en h=> Dn.now (b:=FV.nx σ) h rl (.nx en)⟩
theorem qx{f:FS}(h:RS X st f):RSs X [st] f:=let ⟨t,p,r⟩:=h.ex;⟨_,a2i p,r⟩
theorem a0k{t u:TS}{f g:FS}(h1:ahh K t f)(h2:ahh K u g):ahh K (a4s t u) (jf f g):=by
 intro as σ H ρ s D rl en h
 refine h1 as σ H ρ s _ rl en (Dn.bind h fun fl s1 as1 H1 fv st1 rl1 r1 h1=> ?_)
 cases r1 with
 |nx e=> exact h2 as1 _ H1 _ s1 D rl1 e h1
 |rt e=> exact (show yh D (.rt _) H1 from Dn.now (K:=K) (rel:=rF K) (Q:=yh D) (b:=FV.rt _) h1 rl1 (rF.rt e))
 |bk e=> exact (show yh D (.bk _) H1 from Dn.now (K:=K) (rel:=rF K) (Q:=yh D) (b:=FV.bk _) h1 rl1 (rF.bk e))
 |ct e=> exact (show yh D (.ct _) H1 from Dn.now (K:=K) (rel:=rF K) (Q:=yh D) (b:=FV.ct _) h1 rl1 (rF.ct e))
theorem xv{jt:List Stmt}{f g:FS}(h:RS X st f)(k:RSs X jt g):RSs X (st::jt) (jf f g):=by
 obtain⟨t,p,r⟩:=h.ex
 obtain⟨t',p',r'⟩:=k.ex
 exact⟨_,axq p p',a0k r r'⟩
def v6(g:Tg)(fb:FS)(p:Wk):List D -> En -> S -> R Fl
 |[],ρ,s=>.ok (.nx ρ) s
 | d::r,ρ,s=> match vy g d ρ with
  |none=>.bad
  |some ρ1=> (fb ρ1 s).bind fun fl s2=> match fl with
   |.nx ρ2=> chk p s2 (v6 g fb p r ρ2 s2)
   |.ct ρ2=> chk p s2 (v6 g fb p r ρ2 s2)
   |.bk ρ2=>.ok (.nx ρ2) s2
   |.rt d=>.ok (.rt d) s2
def zq(fi:FI)(g:Tg)(fb:FS):FS:=fun ρ s=> (fi ρ s).bind fun p s1=> chk p s1 (v6 g fb p p.1 ρ s1)
theorem at5{body:List Stmt}{fi:FI}{g:Tg}{fb:FS}(hc:X.calm=true)(hi:RI X tg iter fi)(hg:RG X tg g)(hb:RSs X body fb)(hx:XOk X XW.xk:=by assumption)(hs: ∀x,d9 iter X.env x=pure x:=by intro _;rfl):RS X (.For tg iter body [] pos) (zq fi g fb):=by
 obtain⟨wi,pi,ri⟩:=hi.ex
 obtain⟨tb,pb,rb⟩:=hb.ex
 refine⟨_,a5s hx.own hc pi hg.pg pb hs,fun as σ H ρ s D rl en h=> ?_⟩
 refine ri as σ H ρ s _ rl en (Dn.bind h fun p s1 as1 H1 J st1 rl1 r1 h1=> ?_)
 obtain⟨so,h1⟩:=Dn.chk h1
 refine⟨fun i m σ' H'=> ∃as2 ρ2 s2,m=p.1.length - i/\i <=p.1.length/\Step as1 H1 as2 H'/\Rel X.K as2 H' s2/\Envs X.K as2 H' ρ2 σ'/\yi p s2/\Dn X.K (rF X.K) as2 H' (v6 g fb p (p.1.drop i) ρ2 s2) (yh D),
  ⟨_,as1,ρ,s1,rfl,cy _,Step.refl _ _,rl1,en.mono st1,so,h1⟩,?_⟩
 rintro i m σ' H' ⟨as2,ρ2,s2,hm,hi,st2,rl2,en2,so2,h2⟩
 have tn:=r1 as2 H' s2 st2.toStep0 rl2 so2 i
 by_cases hl:i < p.1.length
 ·obtain⟨d,hd⟩: ∃d,p.1[i]?=some d:=⟨_,ar hl⟩
  have hdr:p.1.drop i=d::p.1.drop (i+1):=by
   rw [eB hl]
   rw [ar hl]at hd
   cases hd;rfl
  rw [hdr]at h2
  obtain⟨go,yl⟩:=tn.2 d hd
  unfold v6 at h2
  split at h2
  ·exact h2.elim
  ·rename_i ρ3 q3
   refine .inr ⟨go,fun σ4 H4=> ∃as4 ρ4 s4,Step as1 H1 as4 H4/\Rel X.K as4 H4 s4/\Envs X.K as4 H4 ρ4 σ4/\yi p s4/\Dn X.K (rF X.K) as4 H4 (v6 g fb p (p.1.drop (i+1)) ρ4 s4) (yh D),?_,fun x H3 hy=> ?_⟩
   ·rintro σ4 H4 ⟨as4,ρ4,s4,a1,a2,a3,a4,a5⟩
    exact⟨p.1.length - (i+1),by lia,as4,ρ4,s4,rfl,hl,a1,a2,a3,a4,a5⟩
   ·obtain⟨st3,rl3,rx⟩:=yl x H3 hy
    refine abl g (en2.mono st3) rx q3 fun σ3 en3 _=> ?_
    refine rb as2 σ3 H3 ρ3 s2 _ rl3 en3 (Dn.bind (Dn.step h2 st3) fun fl s5 as5 H5 fv st5 rl5 r5 h5=> ?_)
    cases r5 with
    |nx e=>
     obtain⟨so5,h5⟩:=Dn.chk h5
     exact⟨as5,_,s5,(st2.trans st3).trans st5,rl5,e,so5,h5⟩
    |ct e=>
     obtain⟨so5,h5⟩:=Dn.chk h5
     exact⟨as5,_,s5,(st2.trans st3).trans st5,rl5,e,so5,h5⟩
    |rt e=> exact (show yh D (.rt _) H5 from Dn.now (K:=X.K) (rel:=rF X.K) (Q:=yh D) (b:=FV.rt _) h5 rl5 (rF.rt e))
    |bk e=> exact (show yh D (.nx _) H5 from Dn.now (K:=X.K) (rel:=rF X.K) (Q:=yh D) (b:=FV.nx _) h5 rl5 (rF.nx e))
 ·refine .inl ⟨tn.1 (cM hl),?_⟩
  rw [dP (cM hl)]at h2
  exact Dn.now (b:=FV.nx σ') h2 rl2 (.nx en2)
end
end PF
variable{l Ca:ej}{K:am}{as:PF.As}{H:L2.Hp}{p js:List Nat}{xs ds ys:List mM}{w:nj}{s s1:PF.S}{n k c:Nat}{v:L2.V}{i m j:Int}{vs:List L2.V}{d a:mM}{e tg:jK}{f fe fa fo:PF.FE}{ρ ρ1:PF.En}{σ:L2.St}{g:PF.Tg}{ft:PF.FT}{y q C:iO}{N cs ss fl ps qs:List iO}{fb:PF.FS}{t:nA}{st b0:PySem.Stmt}{A:mN}{pos tp:PySem.Pos}{b:Bool}{es:List jK}{r:List PF.D}{x0 x1 x2 A0:Option PF.D}{a0 a1:PF.D}{fd:PySem.FuncData}{Q E:dw -> f9 -> Prop}{P prog:md}{h base:PySem.Heap}{X:L2.Cx}{pins:List (ej×PySem.Obj)}{items:Array dw}{suite:List PySem.Stmt}{scope:PySem.Scope}{od:Option ej}{sl:Array (Option dw)}{mg:iO -> Option dw}
namespace PF
open PySem PySem.Spec
open L2
variable[XW]
noncomputable def alt(d:D)(s:S):R Wk:=match d with
 |.lst ds=>.ok (ds.map D.da,none) s
 |.tup ds=>.ok (ds.map D.da,none) s
 |.con ds=>.ok (ds.map D.da,none) s
 |.frz ds=>.ok (ds.map D.da,none) s
 |.ref n=> match s[n]? with
  |some (.lst ds)=>.ok (ds,some (n,ds)) s
  |_=>.bad
 |_=>.bad
def fIt(f:FE):FI:=fun ρ s=> (f ρ s).bind alt
section
variable{X:Cx}{tg a b:Expr}{fa fb:FE}{pos:Pos}
def a9f(K:am)(tl:TE):TI:=fun σ H R=> tl σ H fun x H1=> ∃a,x=.ref a/\(((∃xs,SqL K H1 a xs)/\R (Itl K a) H1)\/((∃xs,SqT K H1 a xs)/\R (Itt K a) H1))
theorem a3l{l:Expr}{tl:TE}(hl:PE X l tl):PI X tg l (a9f X.K tl):=by
 intro pins s σ H R I h
 refine thn (hl pins s σ H _ I h) fun v s1 ⟨x,H1,I1,r1,q1⟩=> ?_
 obtain⟨a,e,q1⟩:=q1
 subst e
 cases r1
 have fp: ∀b∈ [s1.heap.objs.size],ack X pins H1 b:=fun b hb=> by
  have e:b=s1.heap.objs.size:=by simpa using hb
  subst e
  exact I1.fpOk (au _) (I1.hok.fresh (au _))
 rcases q1 with ⟨⟨xs,hq⟩,q⟩|⟨⟨xs,hq⟩,q⟩
 ·obtain⟨its,rv,p,hz⟩:=I1.list hq
  refine eg p.isList ?_
  exact⟨s1.heap.objs.size,[s1.heap.objs.size],_,_,H1,rfl,I1.kept (t':=s1.toks) fun b o e=> aj _ e,atu a _,⟨_,aA _ rfl,rfl,rfl⟩,fp,q⟩
 ·obtain⟨its,rv,p,hz⟩:=I1.tuple hq
  refine iV (show s1.heap.IsTuple a its.toArray from p) ?_
  exact⟨s1.heap.objs.size,[s1.heap.objs.size],_,_,H1,rfl,I1.kept (t':=s1.toks) fun b o e=> aj _ e,ase a _,⟨_,aA _ rfl,rfl,rfl⟩,fp,q⟩
theorem aml{p:Addr}{xs:List V}{w:Wk}(h: ∀as2 H2 s2,Step0 as H as2 H2 -> Rel K as2 H2 s2 -> yi w s2 -> ∃ys,SqL K H2 p ys/\RDs K as2 H2 ys w.1):afk K as H (Itl K p) w:=by
 intro as2 H2 s2 st rl so i
 obtain⟨ys,sq,rs⟩:=h as2 H2 s2 st rl so
 refine⟨fun hl=> ⟨ys,sq,by rw [rs.length];exact hl⟩,fun d hd=> ?_⟩
 obtain⟨v,hv,r⟩:=rs.get hd
 refine⟨⟨ys,v,sq,hv⟩,fun x H3 hy=> ?_⟩
 obtain⟨rfl,hx⟩:=hy
 have:=hx ys sq
 rw [hv]at this
 cases this
 exact⟨Step.refl _ _,rl,r⟩
theorem atp{p:Addr}{xs:List V}{w:Wk}(h: ∀as2 H2 s2,Step0 as H as2 H2 -> Rel K as2 H2 s2 -> yi w s2 -> ∃ys,SqT K H2 p ys/\RDs K as2 H2 ys w.1):afk K as H (Itt K p) w:=by
 intro as2 H2 s2 st rl so i
 obtain⟨ys,sq,rs⟩:=h as2 H2 s2 st rl so
 refine⟨fun hl=> ⟨ys,sq,by rw [rs.length];exact hl⟩,fun d hd=> ?_⟩
 obtain⟨v,hv,r⟩:=rs.get hd
 refine⟨⟨ys,v,sq,hv⟩,fun x H3 hy=> ?_⟩
 obtain⟨rfl,hx⟩:=hy
 have:=hx ys sq
 rw [hv]at this
 cases this
 exact⟨Step.refl _ _,rl,r⟩
theorem yx{p:Addr}{ds:List D}(rl:Rel K as H s)(hr: ∀q,as.ix[n]?=some (some q) -> q=p)(e:s[n]?=some (.lst ds)):as.ix[n]?=some (some p)/\ ∃xs,H p=some (.lst xs)/\RDs K as H xs ds:=by
 obtain⟨q,hq⟩:=rl.li n _ e (by intro z;cases z)
 cases hr q hq
 exact⟨hq,rl.ob n p _ hq e⟩
theorem bcl(h:RE X a fa):RI X tg a (fIt fa):=by
 obtain⟨t,p,r⟩:=h.ex
 refine⟨_,a3l p,fun as σ H ρ s Q rl en h=> ?_⟩
 refine r as σ H ρ s _ rl en (Dn.bind h fun d s1 as1 H1 v st1 rl1 r1 h1=> ?_)
 cases r1 with
 |da t=>
  cases t with
  |tup n e rs=> exact⟨_,rfl,.inr ⟨⟨_,SqT.of e⟩,Dn.now (Q:=Q) h1 rl1 (atp (xs:=[]) fun as2 H2 s2 st rl so=> ⟨_,SqT.of (st.keep _ _ n e),(rs.mono0 st).rd⟩)⟩⟩
  |lst n e rs=> exact⟨_,rfl,.inl ⟨⟨_,SqL.of e⟩,Dn.now (Q:=Q) h1 rl1 (aml (xs:=[]) fun as2 H2 s2 st rl so=> ⟨_,SqL.of (st.keep _ _ n e),(rs.mono0 st).rd⟩)⟩⟩
  |_=> exact h1.elim
 |con q rs=> exact⟨_,rfl,.inr ⟨⟨_,q H1⟩,Dn.now (Q:=Q) h1 rl1 (atp (xs:=[]) fun as2 H2 s2 st rl so=> ⟨_,q H2,(rs.mono0 st).rd⟩)⟩⟩
 |frz q rs=> exact⟨_,rfl,.inl ⟨⟨_,q as1 H1 (Step.refl _ _).toStep0⟩,Dn.now (Q:=Q) h1 rl1 (aml (xs:=[]) fun as2 H2 s2 st rl so=> ⟨_,q as2 H2 st,(rs.mono0 st).rd⟩)⟩⟩
 | @ref pp n l hr=>
  have h1:Dn X.K (afk X.K) as1 H1 (match s1[n]? with|some (O.lst ds)=> R.ok (ds,some (n,ds)) s1|_=> R.bad) Q:=h1
  split at h1
  ·rename_i ds e
   obtain⟨ha,xs,hx,rs⟩:=yx rl1 hr e
   refine⟨_,rfl,.inl ⟨⟨_,SqL.of hx⟩,Dn.now (Q:=Q) h1 rl1 (aml (xs:=[]) fun as2 H2 s2 st rl so=> ?_)⟩⟩
   have so':s2[_]?=some (O.lst ds):=so
   obtain⟨q,hq⟩:=rl.li _ _ so' (by intro z;cases z)
   have e2:=hq
   rcases st.old _ l with z|z
   ·rw [z]at e2
    cases hr q e2
    obtain⟨ys,hy,rs2⟩:=rl.ob _ _ _ hq so'
    exact⟨ys,SqL.of hy,rs2⟩
   ·rw [z]at e2;cases e2
  ·exact h1.elim
 |_=> exact h1.elim
noncomputable def yg(lo:Int):Nat -> List D
 |0=> []
 |n+1=>.int lo::yg (lo+1) n
theorem qv: ∀(n:Nat) (lo:Int),(yg lo n).length=n
 |0,_=> rfl
 |n+1,lo=> congrArg (· +1) (qv n (lo+1))
theorem aje: ∀(n:Nat) (lo:Int) (i:Nat),i < n -> (yg lo n)[i]?=some (.int (lo+i))
 |n+1,lo,0,_=> by simp [yg]
 |n+1,lo,i+1,h=> by
  rw [yg,eR,aje n (lo+1) i (by lia)]
  have:lo+1+(i:Int)=lo+((i+1:Nat):Int):=by lia
  rw [this]
theorem a4z(lo:Int)(n:Nat):afk K as H (Itr lo n) (yg lo n,none):=by
 intro as2 H2 s2 st rl so i
 refine⟨fun hl=> by rw [qv]at hl;exact hl,fun d hd=> ?_⟩
 have hl:i < n:=by
  have:=(aE.mp hd).1
  rw [qv]at this;exact this
 rw [aje n lo i hl]at hd
 cases hd
 refine⟨hl,fun x H3 hy=> ?_⟩
 obtain⟨rfl,rfl⟩:=hy
 exact⟨Step.refl _ _,rl,.da (.int _)⟩
def an2(ds:List D)(s:S):R Wk:=match ds with
 |[.int j]=> if -(2^62) <=j/\j < 2^62 then .ok (yg 0 j.toNat,none) s else .bad
 |_=>.bad
def ac5(f:FA):FI:=fun ρ s=> (f ρ s).bind an2
theorem RD.int_inv(h:RD K as H v (.int i)):v=.int i:=by
 cases h with|da t=> cases t;rfl
theorem RD.str_inv{x:Str}(h:RD K as H v (.str x)):v=.str x:=by
 cases h with|da t=> cases t;rfl
theorem RD.bl_inv{x:Bool}(h:RD K as H v (.bl x)):v=.bl x:=by
 cases h with|da t=> cases t;rfl
theorem RDs.one{d:D}(h:RDs K as H vs [d]): ∃v,vs=[v]/\RD K as H v d:=by
 cases h with|cons a b=> cases b;exact⟨_,rfl,a⟩
theorem RDs.two{d e:D}(h:RDs K as H vs [d,e]): ∃v w,vs=[v,w]/\RD K as H v d/\RD K as H w e:=by
 cases h with|cons a b=> cases b with|cons b c=> cases c;exact⟨_,_,rfl,a,b⟩
theorem a6b{f:FA}{p:Pos}(hm:X.mg "range"=none)(h:RA X [a] f)(hg:Gl X "range":=by rfl)(hs:starEach [a] X.env=[(false,eval a X.env)]:=by rfl):RI X tg (.Call (.Name "range" p) [a] [] pos) (ac5 f):=by
 obtain⟨t,p,r⟩:=h.ex
 refine⟨_,ate hg hm p hs,fun as σ H ρ s Q rl en h=> ?_⟩
 refine r as σ H ρ s _ rl en (Dn.bind h fun ds s1 as1 H1 vs st1 rl1 r1 h1=> ?_)
 unfold an2 at h1
 split at h1
 ·rename_i j
  obtain⟨v,rfl,rv⟩:=r1.one
  cases rv.int_inv
  split at h1
  ·rename_i hb
   exact⟨j,rfl,hb.1,hb.2,Dn.now (Q:=Q) h1 rl1 (a4z 0 _)⟩
  ·exact h1.elim
 ·exact h1.elim
def k9(g:Tg)(ft:FT)(fe:FE)(ρ0:En)(p:Wk):List D -> S -> R (List D)
 |[],s=>.ok [] s
 |d::r,s=> match vy g d ρ0 with
  |none=>.bad
  |some ρ1=> (ft ρ1 s).calm.bind fun b s2=> if b=true then (fe ρ1 s2).calm.bind fun x s3=> chk p s3 ((k9 g ft fe ρ0 p r s3).bind fun xs s4=>.ok (x::xs) s4) else chk p s2 (k9 g ft fe ρ0 p r s2)
theorem R.calm_ex{α:Type}(r:R α)(n:Nat)(ρ:En)(s:S):r.calm≠ .ex n ρ s:=by cases r <;> (intro h;cases h)
theorem ajl{α β:Type}{r:R α}{f:α -> S -> R β}(h1: ∀n ρ s,r≠ .ex n ρ s)(h2: ∀a s n ρ s',f a s≠ .ex n ρ s')(n:Nat)(ρ:En)(s:S):r.bind f≠ .ex n ρ s:=by
 cases r with
 |ok a s'=> exact h2 a s' n ρ s
 |bad=> intro h;cases h
 |ex n' ρ' s'=> exact absurd rfl (h1 n' ρ' s')
theorem avh{α:Type}{p:Wk}{k:R α}(h: ∀n ρ s',k≠ .ex n ρ s')(n:Nat)(ρ:En)(s':S):chk p s k≠ .ex n ρ s':=by
 by_cases c:yi p s
 ·rw [ag8 c];exact h n ρ s'
 ·have e:chk p s k=.bad:=if_neg c
  rw [e];intro z;cases z
theorem ahn{g:Tg}{ft:FT}{fe:FE}{ρ0:En}{p:Wk}: ∀(ds:List D) (s:S) (n:Nat) (ρ:En) (s':S),k9 g ft fe ρ0 p ds s≠ .ex n ρ s'
 |[],s,n,ρ,s'=> by intro h;cases h
 | d::r,s,n,ρ,s'=> by
  rw [k9]
  split
  ·intro h;cases h
  ·refine ajl (R.calm_ex _) (fun b s2=> ?_) n ρ s'
   intro n ρ s'
   split
   ·exact ajl (R.calm_ex _) (fun x s3=> avh (ajl (fun n ρ s'=> ahn r s3 n ρ s') fun xs s4 n ρ s' h=> by cases h)) n ρ s'
   ·exact avh (fun n ρ s'=> ahn r s2 n ρ s') n ρ s'
noncomputable def ajo(ρ:En)(js:List Nat):En:=js.map fun j=> (ρ[j]?).join
def fLc(m:Bool)(js:List Nat)(k:Nat)(fi:FI)(g:Tg)(ft:FT)(fe:FE):FE:=fun ρ s=> (fi ρ s).bind fun p s1=> if p.1.length <=sizeLine then chk p s1 ((k9 g ft fe (aC k none++ajo ρ js) p p.1 s1).bind fun ds s2=> vw m ds s2) else .bad
noncomputable def acd:FT:=fun _ s=>.ok true s
structure RIfs (X:Cx) (ifs:List Expr) (f:FT):Prop where
 run:aj9 X ifs (ami X.K f)
theorem a9e:RIfs X [] acd:=⟨fun pins s σ H Q I ⟨as,ρ,s',rl,en,h⟩=> ayr pins s σ H Q I (show Q true H from Dn.now h rl rfl)⟩
theorem ba4{f:FT}(h:RT X a f):RIfs X [a] f:=⟨ay3 h.pt⟩
theorem Envs.caps(e:Envs K as H ρ σ)(js:List Nat):Envs K as H (ajo ρ js) (zu σ js):=by
 refine⟨by simp [ajo,zu],fun i d h=> ?_⟩
 unfold ajo at h
 unfold zu
 rw [aL]at h⊢
 cases q:js[i]? with
 |none=> rw [q]at h;cases h
 | some j=>
  rw [q]at h
  have h:(ρ[j]?).join=some d:=by simpa using h
  cases z:ρ[j]? with
  |none=> rw [z]at h;cases h
  | some o=>
   rw [z]at h
   cases o with
   |none=> cases h
   |some x=>
    cases h
    obtain⟨v,e1,r⟩:=e.get j d z
    exact⟨v,by simp [e1],r⟩
theorem Envs.own{vs:St}(e:Envs K as H ρ σ)(hl:vs.length=k):Envs K as H (aC k none++ρ) (vs++σ):=by
 refine⟨by simp [hl,e.len],fun i d h=> ?_⟩
 by_cases z:i < k
 ·rw [bq (by simpa using z),eQ]at h
  simp [z]at h
 ·rw [cv (by simpa using cM z)]at h
  rw [cv (by rw [hl];exact cM z)]
  rw [hl]
  exact e.get _ d (by simpa using h)
theorem lcB {J:It} {p:Wk} {ρ0:En} {cap:St} {m:Bool} {Q:VK} (hg:abr k g=true) (hz:p.1.length <=sizeLine) (rl:Rel K as H s) (ri:afk K as H J p) (so:yi p s) (en: ∀vs:St,vs.length=k -> Envs K as H ρ0 (vs++cap)) (h:Dn K (rD K) as H ((k9 g ft fe ρ0 p p.1 s).bind fun ds s2=> vw m ds s2) Q):ayb (gOf K g) (@ami XW.dft K ft) (@tOf XW.dft K fe) k cap J H Q:=by
 intro D hD
 have n0:New H D (.lst []) (upd H D (.lst [])):=⟨hD,rfl⟩
 have nh:D∉as.hd:=fun z=> by obtain⟨_,e⟩:=rl.hs D z;rw [hD]at e;cases e
 have s0:=akf (as:=as) n0
 refine⟨fun i mm ys H'=> ∃as2 s2 ds,mm=p.1.length - i/\i <=p.1.length/\ys.length <=i/\Step as H as2 H'/\D∈as2.hd/\Rel K as2 H' s2/\yi p s2/\RDs K as2 H' ys ds/\
   Dn K (rD K) as H ((k9 g ft fe ρ0 p (p.1.drop i) s2).bind fun xs s3=> vw m (ds++xs) s3) Q,
  ⟨_,as.hide D,s,[],rfl,cy _,au _,s0,aB,rl.hide n0,so,.nil,h⟩,?_⟩
 rintro i mm ys H' hDi ⟨as2,s2,ds,hm,hi,hys,st2,mD2,rl2,so2,rs,h2⟩
 have tn:=ri as2 H' s2 st2.toStep0 rl2 so2 i
 by_cases hl:i < p.1.length
 ·obtain⟨d,hd⟩: ∃d,p.1[i]?=some d:=⟨_,ar hl⟩
  have hdr:p.1.drop i=d::p.1.drop (i+1):=by
   rw [eB hl]
   rw [ar hl]at hd
   cases hd;rfl
  rw [hdr]at h2
  obtain⟨go,yl⟩:=tn.2 d hd
  unfold k9 at h2
  split at h2
  ·exact h2.elim
  ·rename_i ρ3 q3
   refine .inr ⟨go,fun x H3 hy vs hv=> ?_⟩
   obtain⟨st3,rl3,rx⟩:=yl x H3 hy
   refine abl g ((en vs hv).mono (st2.trans st3)) rx q3 fun σ3 en3 fr=> ?_
   refine⟨fr k hg vs cap hv rfl,as2,ρ3,s2,rl3,en3,?_⟩
   have eD3:H3 D=some (.lst ys):=st3.hh D mD2 _ hDi
   cases qt:ft ρ3 s2 with
   |bad=> rw [qt]at h2;exact h2.elim
   |ex _ _ _=> rw [qt]at h2;exact h2.elim
   | ok b s4=>
    rw [qt,R.calm_ok]at h2
    intro b' as4 H4 st4 rl4 eb
    have eb':b'=b:=eb
    subst eb'
    have mD4:D∈as4.hd:=st4.hk D mD2
    have eD4:H4 D=some (.lst ys):=st4.hh D mD2 _ eD3
    have st24:=(st2.trans st3).trans st4
    rw [R.bind_ok]at h2
    cases b' with
    | false=>
     rw [if_neg aq]at h2⊢
     by_cases c:yi p s4
     ·rw [ag8 c]at h2
      exact⟨eD4,_,by lia,as4,s4,ds,rfl,hl,by lia,st24,mD4,rl4,c,(rs.mono st3).mono st4,h2⟩
     ·have e:chk p s4 (k9 g ft fe ρ0 p (p.1.drop (i+1)) s4)=.bad:=if_neg c
      rw [e]at h2;exact h2.elim
    | true=>
     rw [if_pos rfl]at h2⊢
     refine⟨as4,ρ3,s4,rl4,en3.mono st4,?_⟩
     cases qe:fe ρ3 s4 with
     |bad=> rw [qe]at h2;exact h2.elim
     |ex _ _ _=> rw [qe]at h2;exact h2.elim
     | ok x5 s5=>
      rw [qe,R.calm_ok]at h2
      intro v5 as5 H5 st5 rl5 r5
      rw [R.bind_ok]at h2
      have mD5:D∈as5.hd:=st5.hk D mD4
      have eD5:H5 D=some (.lst ys):=st5.hh D mD4 _ eD4
      have st25:=st24.trans st5
      by_cases c:yi p s5
      ·rw [ag8 c]at h2
       have cg:Chg H5 D (.lst (ys++ [v5])) (upd H5 D (.lst (ys++ [v5]))):=⟨rfl⟩
       have s05:=abg (.inr mD5) cg
       refine⟨eD5,by lia,_,by lia,as5,s5,ds++ [x5],rfl,hl,by simp;lia,ay8 st25 hD nh mD5 cg,mD5,rl5.chgH mD5 cg,c,((((rs.mono st3).mono st4).mono st5).append (.cons r5 .nil)).mono0 s05,?_⟩
       cases qc:k9 g ft fe ρ0 p (p.1.drop (i+1)) s5 with
       |bad=> rw [qc]at h2;exact h2.elim
       |ex _ _ _=> exact absurd qc (ahn _ _ _ _ _)
       |ok xs s6=>
        rw [qc]at h2
        show Dn K (rD K) as H (vw m ((ds++ [x5])++xs) s6) Q
        rw [cQ]
        exact h2
      ·have e:chk p s5 ((k9 g ft fe ρ0 p (p.1.drop (i+1)) s5).bind fun xs s4=>.ok (x5::xs) s4)=.bad:=if_neg c
       rw [e]at h2;exact h2.elim
 ·refine .inl ⟨tn.1 (cM hl),?_⟩
  rw [dP (cM hl)]at h2
  replace h2:Dn K (rD K) as H (vw m (ds++ []) s2) Q:=h2
  rw [cn]at h2
  unfold vw at h2
  cases m with
  |true=>
   rw [if_pos rfl]at h2
   refine h2 (.ref D) _ H' (avc st2 nh mD2) (rl2.take mD2 ⟨ys,hDi,rs.mono0 (afp mD2)⟩) (.ref (by simp [rl2.len]) fun q e=> ?_)
   rw [←rl2.len]at e
   simp at e
   exact e.symm
  | false=>
   rw [if_neg aq]at h2
   cases q:kq ds with
   |none=> rw [q]at h2;exact h2.elim
   |some zs=>
    rw [q]at h2
    have e:=zr q
    subst e
    have h2:Dn K (rD K) as H (R.ok (.lst zs) s2) Q:=h2
    refine h2 (.ref D) _ H' (axh st2 nh afu) rl2.show (.da (.lst (fun z=> ?_) hDi (rs.td.mono0 afu)))
    rcases z with z|z
    ·exact rl2.hx D mD2 z
    ·exact absurd rfl (of_decide_eq_true (bU.mp z).2)
end
end PF
namespace PF
open PySem PySem.Spec
open L2
open PyProof.Rows (envOfC)
section XWs
variable[XW]
section
variable{X:Cx}{own caps:List Str}{js:List Nat}{scope:gn}{tg iter elt a:Expr}{ifs:List Expr}{fi:FI}{g:Tg}{ft:FT}{fe fa:FE}{pos:Pos}
theorem atz{wi:TI}{m:Bool}(ri:a4r K wi fi)(hl:abr k g=true):aaz K (tLc js k wi (gOf K g) (@ami XW.dft K ft) (@tOf XW.dft K fe)) (fLc m js k fi g ft fe):=by
 intro as σ H ρ s Q rl en h
 refine ri as σ H ρ s _ rl en (Dn.bind h fun p s1 as1 H1 J st1 rl1 r1 h1=> ?_)
 split at h1
 ·rename_i hz
  obtain⟨so,h1⟩:=Dn.chk h1
  exact lcB hl hz rl1 r1 so (fun vs hv=> ((en.mono st1).caps js).own hv) h1
 ·exact h1.elim
theorem azu(m:Bool)(hcalm:X.calm=true)(hkind:scope.kind=.function)(hnames:(scope.names.all fun p=> !(p.2==.local)||(scope.names.lookup p.1==some .local))=true)(hcell:(scope.names.any fun p=> p.2==.cell)=false)
  (hk:(scope.names.all fun p=> !(p.2==.free)||(X.env.kindOf p.1==some .cell||X.env.kindOf p.1==some .free))=true)
  (hcap:zc X scope caps js) (hl:abr own.length g=true) (hi:RI X tg iter fi) (hg: ∀C fp s H,RG (qo X own caps scope C fp s H) tg g) (ht: ∀(I:XW) C fp s H,XOk (qo X own caps scope C fp s H) I.xk -> @RIfs I (qo X own caps scope C fp s H) ifs ft) (he: ∀(I:XW) C fp s H,XOk (qo X own caps scope C fp s H) I.xk -> @RE I (qo X own caps scope C fp s H) elt fe)
  (hs: ∀x,d9 iter X.env x=pure x:=by intro _;rfl):RE X (.ListComp elt [⟨tg,iter,ifs,0⟩] scope pos) (fLc m js own.length fi g ft fe):=by
 obtain⟨wi,pi,ri⟩:=hi.ex
 exact⟨_,a7l hcalm hkind hnames hcell hk hcap pi (fun C fp s H=> (hg C fp s H).pg) (fun C fp s H=> @RIfs.run XW.dft _ _ _ (ht XW.dft C fp s H (XOk.never f8))) (fun C fp s H=> @RE.pe XW.dft _ _ _ (he XW.dft C fp s H (XOk.never f8))) hs,atz ri hl⟩
theorem avl(m:Bool){i:Nat}{py:Pos}{spos:Pos}(hsw:gf (.ListComp elt [⟨tg,iter,ifs,0⟩] scope pos) (some (.Name y py)) spos.line X.env=pure true)(hN:X.N.Nodup)(hy:X.N[i]?=some y)(hyl:X.env.scope.names.lookup y=some .local)(hcalm:X.calm=true)(hkind:scope.kind=.function)(hnames:(scope.names.all fun p=> !(p.2==.local)||(scope.names.lookup p.1==some .local))=true)(hcell:(scope.names.any fun p=> p.2==.cell)=false)(hk:(scope.names.all fun p=> !(p.2==.free)||(X.env.kindOf p.1==some .cell||X.env.kindOf p.1==some .free))=true)(hcap:zc X scope caps js)(hl:abr own.length g=true)(hi:RI X tg iter fi)(hg: ∀C fp s H,RG (qo X own caps scope C fp s H) tg g)(ht: ∀(I:XW) C fp s H,XOk (qo X own caps scope C fp s H) I.xk -> @RIfs I (qo X own caps scope C fp s H) ifs ft)(he: ∀(I:XW) C fp s H,XOk (qo X own caps scope C fp s H) I.xk -> @RE I (qo X own caps scope C fp s H) elt fe)(hs: ∀x,d9 iter X.env x=pure x:=by intro _;rfl):RS X (.Assign [.Name y py] (.ListComp elt [⟨tg,iter,ifs,0⟩] scope pos) spos) (jw i (fLc m js own.length fi g ft fe)):=by
 obtain⟨wi,pi,ri⟩:=hi.ex
 refine⟨_,avq (own:=own) (te:= @tOf XW.dft X.K fe) (tt:= @ami XW.dft X.K ft) (g:=gOf X.K g) hsw hN hy hyl hcalm hkind hnames hcell hk hcap pi (fun C fp s H=> (hg C fp s H).pg) (fun C fp s H=> @RIfs.run XW.dft _ _ _ (ht XW.dft C fp s H (XOk.never f8))) (fun C fp s H=> @RE.pe XW.dft _ _ _ (he XW.dft C fp s H (XOk.never f8))) hs,fun as σ H ρ s D rl en h=> ?_⟩
 exact atz (m:=m) ri hl as σ H ρ s _ rl en (Dn.bind h fun d s1 as1 H1 v st1 rl1 r1 h1=> Dn.now (b:=FV.nx (σ.set i (some v))) h1 rl1 (.nx ((en.mono st1).set i r1)))
def avz(d:D)(s:S):R D:=match d with
 | .ref n=> match s[n]? with
  |some (.lst ds)=> match kq ds with
   |some xs=>.ok (.lst xs) (s.set n .gone)
   |none=>.bad
  |_=>.bad
 |d=>.ok d s
def ayn(f:FE):FE:=fun ρ s=> (f ρ s).bind avz
theorem a3e{d:D}{Q:VK}(rl:Rel K as H s)(r:RD K as H v d)(h:Dn K (rD K) as H (avz d s) Q):Q v H:=by
 cases r with
 | @ref p n l hr=>
  have h1:Dn K (rD K) as H (match s[n]? with|some (O.lst ds)=> (match kq ds with|some xs=> R.ok (D.lst xs) (s.set n .gone)|none=>.bad)|_=> R.bad) Q:=h
  split at h1
  ·rename_i ds e
   split at h1
   ·rename_i xs q
    obtain⟨ha,vs,hv,rs⟩:=yx rl hr e
    have e2:=zr q
    subst e2
    refine h1 (.ref p) (as.cut n) H (ah9 n) rl.frz (.da (.lst ?_ hv (rs.td.mono (ah9 n))))
    rintro (z|z)
    ·obtain⟨i,hi⟩:=qk.mp z
     have hi':=air hi
     have:n=i:=rl.nd n i p ha hi'
     subst this
     rw [dG]at hi
     simp at hi
    ·exact rl.hx p z (qk.mpr ⟨n,ha⟩)
   ·exact h1.elim
  ·exact h1.elim
 |da t=> exact Dn.now (Q:=Q) h rl (.da t)
 |ty n=> exact Dn.now (Q:=Q) h rl (.ty n)
 |fn a=> exact Dn.now (Q:=Q) h rl (.fn a)
 |tabF a=> exact Dn.now (Q:=Q) h rl (.tabF a)
 |con q r=> exact Dn.now (Q:=Q) h rl (.con q r)
 |frz q r=> exact Dn.now (Q:=Q) h rl (.frz q r)
theorem bbx(h:RE X a fa):RE X a (ayn fa):=by
 obtain⟨t,p,r⟩:=h.ex
 refine⟨_,p,fun as σ H ρ s Q rl en h=> ?_⟩
 exact r as σ H ρ s _ rl en (Dn.bind h fun d s1 as1 H1 v st1 rl1 r1 h1=> a3e rl1 r1 h1)
end
abbrev FF:=List D -> S -> R D
noncomputable def spF(K:am)(n:Nat)(F:FF):Sp:=fun vs H Q E=> vs.length=n/\ ∃as ds s,Rel K as H s/\RDs K as H vs ds/\ @Dn (XW.of E) D V K (rD K) as H (F ds s) Q
structure CalF (P:aT) (w:aX) (K:am) (mg:Str -> Option af) (base:Heap) (x:Str) (k n:Nat) (F:FF):Prop where
 cal:ax3 P w K mg base x k (spF K n F)
def jd(n:Nat)(F:FF)(f:FA):FE:=fun ρ s=> (f ρ s).bind fun ds s1=> if ds.length=n then (F ds s1).at ρ else .bad
section
variable{X:Cx}{x:Str}{k n:Nat}{F:FF}{p pos:Pos}{e:Expr}{es:List Expr}{f:FA}
theorem aem(c:CalF X.prog X.w X.K X.mg X.base x k n F)(hr:Room k X.A)(ha:RA X (e::es) f)(hx:XOk X XW.xk:=by assumption)(hg:Gl X x:=by rfl)(hdb:(x==("__debug__":Str))=false:=by decide)
  (he:starEach (e::es) X.env=(false,eval e X.env)::starEach es X.env:=by rfl) (hpl:(backTo pos (starEach es X.env)).any (·.1)=false:=by rfl):RE X (.Call (.Name x p) (e::es) [] pos) (jd n F f):=by
 obtain⟨t,p,r⟩:=ha.ex
 refine⟨_,a7c c.cal hx hr p hg hdb he hpl,fun as σ H ρ s Q rl en h=> ?_⟩
 refine r as σ H ρ s _ rl en (Dn.bind h fun ds s1 as1 H1 vs st1 rl1 r1 h1=> ?_)
 split at h1
 ·rename_i hn
  refine⟨by rw [cn,r1.length];exact hn,as1,ds,s1,rl1,?_,h1.at (en.mono st1)⟩
  rw [cn];exact r1
 ·exact h1.elim
end
end XWs
def jx(m:Nat)(fb:FS):FF:=fun ds s=> (fb (ds.map some++aC (m - ds.length) none) s).bind fun fl s1=> match fl with
 |.rt d=>.ok d s1
 |.nx _=>.ok .non s1
 |_=>.bad
theorem aqy{ds:List D}(r:RDs K as H vs ds):Envs K as H (ds.map some++aC (N.length - ds.length) none) (L2.start N vs):=by
 unfold L2.start
 refine⟨by simp [r.length],fun i d h=> ?_⟩
 by_cases z:i < ds.length
 ·rw [bq (by simpa using z),aL]at h
  cases q:ds[i]? with
  |none=> rw [q]at h;cases h
  |some x=>
   rw [q]at h
   cases h
   obtain⟨v,hv,rv⟩:=r.get q
   exact⟨v,by rw [bq (by rw [ao,r.length];exact z),aL,hv];rfl,rv⟩
 ·rw [cv (by simpa using cM z),eQ]at h
  split at h
  ·cases h
  ·cases h
theorem ax7[I:XW]{t:TS}{Q:VK}(r:ahh K t fb)(rl:Rel K as H s)(en:Envs K as H ρ σ)(h:Dn K (rD K) as H ((fb ρ s).bind fun fl s1=> match fl with|.rt d=>.ok d s1|.nx _=>.ok .non s1|_=>.bad) Q):t {nx:=fun _ H'=> Q .non H',rt:=Q} σ H:=by
 refine r as _ H _ s _ rl en (Dn.bind h fun fl s1 as1 H1 fv st1 rl1 r1 h1=> ?_)
 cases r1 with
 |nx e=> exact Dn.now (Q:=Q) h1 rl1 (.da .non)
 |rt e=> exact Dn.now (Q:=Q) h1 rl1 e
 |bk e=> exact h1.elim
 |ct e=> exact h1.elim
abbrev BodyOk(P:aT)(w:aX)(K:am)(mg:Str -> Option af)(base:Heap)(N:List Str)(q:Str)(st:Stmt)(k:Nat)(fb:FS):Prop:=
 ∀(f:Addr) (cdv:af) (A:bj) (outer:List Env) (s:ak) (H:Hp) (E:XK) (I:XW),XOk (zt (CX1 P w) P w K mg base N q (je st) f cdv A outer s H E) I.xk -> Room k (A.deeper (envOfC q (je st) s.heap.objs.size f cdv)) ->
  @RSs I (zt (CX1 P w) P w K mg base N q (je st) f cdv A outer s H E) (ve st) fb
section
variable{P:aT}{w:aX}{K:am}{mg:Str -> Option af}{base:Heap}{x:Str}{st:Stmt}{N ps:List Str}{k:Nat}
theorem ak6{m:Nat}(hm:N.length=m)(hbody:BodyOk P w K mg base N q st k fb)(f:Addr)(cdv:af)(A:bj)(outer:List Env)(s:ak)(H:Hp)(vs:List V)(Q:VK)(E:XK)(hr:Room k (A.deeper (envOfC q (je st) s.heap.objs.size f cdv)))(h:spF K n (jx m fb) vs H Q E):
  ∃t,PSs (zt (CX1 P w) P w K mg base N q (je st) f cdv A outer s H E) (ve st) t/\t {nx:=fun _ H'=> Q .non H',rt:=Q} (L2.start N vs) H:=by
 obtain⟨hv,as,ds,s',rl,rs,h⟩:=h
 obtain⟨t,p,r⟩:= @RSs.ex (XW.of E) _ _ _ (hbody f cdv A outer s H E (XW.of E) a70 hr)
 have en:Envs K as H (ds.map some++aC (m - ds.length) none) (L2.start N vs):=by rw [←hm];exact aqy rs
 exact⟨t,p,ax7 (I:=XW.of E) r rl en h⟩
theorem aeb(h:Has K mg x st ps)(S:FnScope N ps (je st)){m:Nat}(hm:N.length=m)(hn:ps.length=n)(hbody:BodyOk P w K mg base N x st k fb):CalF P w K mg base x (k+1) n (jx m fb):=
 ⟨h.calX S (fun vs H Q E h=> by rw [hn];exact h.1) fun f cdv A outer s H vs Q E hr h=> ak6 hm hbody f cdv A outer s H vs Q E hr h⟩
end
noncomputable def aid(K:am):Sp:=fun vs H Q _=> ∃(a:Addr) (ns:List Int),vs=[.ref a]/\SqL K H a (ns.map V.int)/\ns.length <=63/\ ∀H',Q (.bl true) H'
theorem TDs.ints{as:As}{H:Hp}: ∀ns:List Int,TDs as H (ns.map V.int) (ns.map aD)
 |[]=>.nil
 |n::r=>.cons (.int n) (TDs.ints r)
end PF
namespace PF
open PySem PySem.Spec
open L2
variable[XW]
section
variable{X:Cx}{pins:List (Addr×Obj)}{σ:St}{H:Hp}{s:ak}{as:As}
theorem afm{a:Addr}(I:Inv X pins σ H s)(e:H a=some (.dK [])):(a==fM)=false/\ ∃(o:Obj) (es:Array kO) (ep:Nat),s.heap.get? a=some o/\o.cls=.type "dict"/\o.data=.dict es ep/\es.toList=[]:=by
 obtain⟨_,hd,vs,rel,dd⟩:=aza I.hok e
 cases rel
 obtain⟨o,es,ep,h1,h2,h3,h4,h5⟩:=dd
 refine⟨hd,o,es,ep,h1,h2.1,h3,?_⟩
 cases h6:es.toList with
 |nil=> rfl
 |cons x r=> rw [h6]at h5;obtain⟨h5,_⟩:=h5;cases h5
theorem ak1{a:Addr}(I:Inv X pins σ H s)(e:H a=some (.dK [(.inl i,v)])):(a==fM)=false/\ ∃(o:Obj) (es:Array kO) (ep:Nat) (hs:Int) (t:Tok) (u:af),RelV v u/\s.heap.get? a=some o/\o.cls=.type "dict"/\o.data=.dict es ep/\es.toList=[⟨hs,.int i t,u⟩]:=by
 obtain⟨_,hd,vs,rel,dd⟩:=aza I.hok e
 cases rel with
 | @cons _ b _ _ r1 r2=>
  cases r2
  obtain⟨k,u⟩:=b
  obtain⟨r0,r1⟩:=r1
  obtain rfl:gZ i=k:=r0
  obtain⟨o,es,ep,h1,h2,h3,h4,h5,_⟩:=dd
  refine⟨hd,o,es,ep,?_⟩
  cases h6:es.toList with
  |nil=> rw [h6]at h5;cases h5
  | cons x r=>
   rw [h6]at h5
   cases h5 with
   | cons k1 k2 k3=>
    cases k3
    obtain⟨hs,key,val⟩:=x
    rcases qi (k:=.inl i) (v:=key) k1 with ⟨j,t,e1,e2⟩|⟨y,t,e1,_⟩
    ·cases e1
     obtain rfl:key=dq i t:=e2
     obtain rfl:val=u:=k2
     exact⟨hs,t,val,r1,h1,h2.1,h3,rfl⟩
    ·cases e1
mutual
theorem TD.reads(I:Inv X pins σ H s): ∀{v:V} {d:ag} {u:af},TD as H v d -> RelV v u -> ∃bs,dz s.heap u d bs
 |_,_,u,.non,r=> by cases (show u=aZ from r);exact⟨_,.none⟩
 |_,_,u,.bl b,r=> by cases (show u=fL b from r);exact⟨_,.bool b⟩
 |_,_,u,.int i,r=> by obtain⟨t,e⟩:=(show∃t,u=dq i t from r);subst e;exact⟨_,.int i t⟩
 |_,_,u,.str x,r=> by obtain⟨t,e⟩:=(show∃t,u=gb x t from r);subst e;exact⟨_,.str x t⟩
 |_,_,u,.tup (p:=a) (xs:=xs) n e q,r=> by
  cases (show u=aS a from r)
  obtain⟨z,its,rv,p⟩:=(show ke X.prog X.w H s.heap a (.tup xs) from I.hok a _ e)
  obtain⟨o,h1,h2,k,h3⟩:=p.tup
  obtain⟨bs,ra⟩:=TDs.reads I q rv
  exact⟨_,.tuple h1 h2 h3 ra⟩
 |_,_,u,.lst (p:=a) (xs:=xs) n e q,r=> by
  cases (show u=aS a from r)
  obtain⟨z,its,k,rv,h1⟩:=(show ke X.prog X.w H s.heap a (.lst xs) from I.hok a _ e)
  obtain⟨bs,ra⟩:=TDs.reads I q rv
  exact⟨_,.list h1 rfl rfl ra⟩
 |_,_,u,.dct (p:=a) n e,r=> by
  cases (show u=aS a from r)
  obtain⟨_,o,es,ep,h1,h2,h3,h4⟩:=afm I e
  exact⟨_,.dict (kvs:=[]) h1 h2 h3 (by rw [h4];exact .nil) (by rw [h4];exact .nil)⟩
 |_,_,u,.dc1 (p:=a) (i:=i) (d:=d) n e q,r=> by
  cases (show u=aS a from r)
  obtain⟨_,o,es,ep,hs,t,y,ry,h1,h2,h3,h4⟩:=ak1 I e
  obtain⟨bs,ra⟩:=TD.reads I q ry
  exact⟨_,.dict (kvs:=[(.int i,d)]) h1 h2 h3 (by rw [h4];exact .cons (.int i t) .nil) (by rw [h4];exact .cons ra .nil)⟩
theorem TDs.reads(I:Inv X pins σ H s): ∀{vs:List V} {ds:List ag} {us:List af},TDs as H vs ds -> jm vs us -> ∃bs,cY s.heap us ds bs
 |_,_,_,.nil,r=> by cases r;exact⟨_,.nil⟩
 | _,_,_,.cons a b,r=> by
  cases r with
  |cons r1 r2=>
   obtain⟨as,h1⟩:=TD.reads I a r1
   obtain⟨bs,h2⟩:=TDs.reads I b r2
   exact⟨_,.cons h1 h2⟩
end
def toP(s:S):D -> Option ag
 |.da d=> some d
 |.con ds=> some (.tuple ds)
 |.frz ds=> some (.list ds)
 |.ref n=> match s[n]? with
  |some (.lst ds)=> (kq ds).map lw
  |_=> none
 |_=> none
noncomputable def toL(s:S):D -> Option (List D)
 |.lst ds=> some (ds.map D.da)
 |.ref n=> match s[n]? with
  |some (.lst ds)=> some ds
  |_=> none
 |_=> none
theorem aba{st:S}{d:D}{ds:List D}(rl:Rel K as H st)(r:RD K as H v d)(h:toL st d=some ds): ∃p xs,v=.ref p/\H p=some (.lst xs)/\RDs K as H xs ds:=by
 cases r with
 |da t=>
  cases t with
  |lst n e q=> cases h;exact⟨_,_,rfl,e,q.rd⟩
  |_=> cases h
 | @ref p n l hr=>
  have h:(match st[n]? with|some (O.lst ds)=> some ds|_=> none)=some ds:=h
  split at h
  ·rename_i ys e
   cases h
   obtain⟨_,xs,hx,rs⟩:=yx rl hr e
   exact⟨p,xs,rfl,hx,rs⟩
  ·cases h
 |_=> cases h
theorem RD.reads{st:S}{d:D}{pd:ag}{u:af}(I:Inv X pins σ H s)(rl:Rel X.K as H st)(r:RD X.K as H v d)(h:toP st d=some pd)(ru:RelV v u): ∃bs,dz s.heap u pd bs:=by
 cases r with
 |da t=> cases h;exact t.reads I ru
 |con q rs=>
  cases h
  obtain⟨its,rv,⟨o,h1,h2,k,h3⟩,z⟩:=I.tuple (q H)
  obtain⟨bs,ra⟩:=rs.reads I rv
  cases ru
  exact⟨_,.tuple h1 h2 h3 ra⟩
 |frz q rs=>
  cases h
  obtain⟨its,rv,⟨o,k,h1,h2,h3,h4⟩,z⟩:=I.list (q as H (Step.refl _ _).toStep0)
  obtain⟨bs,ra⟩:=rs.reads I rv
  cases ru
  exact⟨_,.list h1 h2 h4 ra⟩
 | @ref p n l hr=>
  have h:(match st[n]? with|some (O.lst ds)=> (kq ds).map lw|_=> none)=some pd:=h
  split at h
  ·rename_i ds e
   cases q:kq ds with
   |none=> rw [q]at h;cases h
   |some xs=>
    rw [q]at h
    cases h
    have e2:=zr q
    subst e2
    obtain⟨_,vs,hv,rs⟩:=yx rl hr e
    obtain⟨z,its,k,rv,h1⟩:=(show ke X.prog X.w H s.heap p (.lst vs) from I.hok p _ hv)
    obtain⟨bs,ra⟩:=rs.td.reads I rv
    cases ru
    exact⟨_,.list h1 rfl rfl ra⟩
  ·cases h
 |_=> cases h
end
noncomputable def okD(d:ag):Bool:=d.canLay0&&decide (d.depth <=64)
theorem va{f:af -> af -> Sem af}{g:D -> D -> S -> R D}(h: ∀(pins:List (Addr×Obj)) (sh:ak) (σ:St) (H:Hp) (as:As) (s:S) (x y:V) (dx dy:D) (v u:af) (Q:VK),Inv X pins σ H sh -> Rel X.K as H s -> RD X.K as H x dx -> RD X.K as H y dy -> RelV x v -> RelV y u ->
  Dn X.K (rD X.K) as H (g dx dy s) Q -> wpAny (model X.prog X.w) X.A (f v u) (EP X pins σ Q) X.xe sh):Op2 X f g:=
 ⟨fun x y H Q=> ∃as s dx dy,Rel X.K as H s/\RD X.K as H x dx/\RD X.K as H y dy/\Dn X.K (rD X.K) as H (g dx dy s) Q,
  fun pins sh σ H x y v u Q I rx ry ⟨as,s,dx,dy,rl,r1,r2,q⟩=> h pins sh σ H as s x y dx dy v u Q I rl r1 r2 rx ry q,
  fun as H s x y dx dy Q rl r1 r2 q=> ⟨as,s,dx,dy,rl,r1,r2,q⟩⟩
def aqs(dx dy:D)(s:S):R D:=match toP s dx,toP s dy with
 |some a,some b=> if okD a=true/\okD b=true then .ok (.bl (aM a b)) s else .bad
 |_,_=>.bad
def aqq(dx dy:D)(s:S):R D:=match toP s dx,toP s dy with
 |some a,some b=> if okD a=true/\okD b=true then .ok (.bl (!PyData.eqv a b)) s else .bad
 |_,_=>.bad
def gEq(dx dy:D)(s:S):R D:=match dx,dy with
 |.str x,.str y=>.ok (.bl (decide (x=y))) s
 |dx,dy=> aqs dx dy s
def gNe(dx dy:D)(s:S):R D:=match dx,dy with
 |.str x,.str y=>.ok (.bl (!decide (x=y))) s
 |dx,dy=> aqq dx dy s
theorem aa0(h:okD d=true):d.canLay0=true/\d.depth <=64:=by
 unfold okD at h
 rw [aG]at h
 exact⟨h.1,of_decide_eq_true h.2⟩
theorem a6o(hu:X.A.units+64 < cLine):Op2 X (aY .Eq) aqs:=va fun pins sh σ H as s x y dx dy v u Q I rl r1 r2 rx ry h=> by
 unfold aqs at h
 split at h
 ·rename_i a b ea eb
  split at h
  ·rename_i hok
   obtain⟨bs1,q1⟩:=r1.reads I rl ea rx
   obtain⟨bs2,q2⟩:=r2.reads I rl eb ry
   obtain⟨c1,d1⟩:=aa0 hok.1
   obtain⟨c2,d2⟩:=aa0 hok.2
   exact SeqAt.compareEq_reads q1 q2 c1 c2 (by lia) ⟨.bl _,H,I,rfl,Dn.now (Q:=Q) h rl (.da (.bl _))⟩
  ·exact h.elim
 ·exact h.elim
theorem a6u(hu:X.A.units+64 < cLine):Op2 X (aY .NotEq) aqq:=va fun pins sh σ H as s x y dx dy v u Q I rl r1 r2 rx ry h=> by
 unfold aqq at h
 split at h
 ·rename_i a b ea eb
  split at h
  ·rename_i hok
   obtain⟨bs1,q1⟩:=r1.reads I rl ea rx
   obtain⟨bs2,q2⟩:=r2.reads I rl eb ry
   obtain⟨c1,d1⟩:=aa0 hok.1
   obtain⟨c2,d2⟩:=aa0 hok.2
   exact SeqAt.compareNe_reads q1 q2 c1 c2 (by lia) ⟨.bl _,H,I,rfl,Dn.now (Q:=Q) h rl (.da (.bl _))⟩
  ·exact h.elim
 ·exact h.elim
theorem ap7(x y:Str):decide (V.str x=V.str y)=decide (x=y):=by
 rw [aW,decide_eq_true_eq,decide_eq_true_eq,V.str.injEq]
theorem aev{x:Str}(h:RD K as H v (.str x)):v=.str x:=by
 cases h with|da t=> cases t;rfl
theorem a8x(hu:X.A.units+64 < cLine):Op2 X (aY .Eq) gEq:=va fun pins sh σ H as s x y dx dy v u Q I rl r1 r2 rx ry h=> by
 unfold gEq at h
 split at h
 ·cases aev r1;cases aev r2
  exact a78 pins sh σ H _ _ v u Q I rx ry ⟨rfl,by rw [ap7];exact Dn.now (Q:=Q) h rl (.da (.bl _))⟩
 ·obtain⟨r,ho,hr⟩:=(a6o (X:=X) hu).ex
  exact ho pins sh σ H x y v u Q I rx ry (hr as H s x y _ _ Q rl r1 r2 h)
theorem a3t(hu:X.A.units+64 < cLine):Op2 X (aY .NotEq) gNe:=va fun pins sh σ H as s x y dx dy v u Q I rl r1 r2 rx ry h=> by
 unfold gNe at h
 split at h
 ·cases aev r1;cases aev r2
  exact a81 pins sh σ H _ _ v u Q I rx ry ⟨rfl,by rw [ap7];exact Dn.now (Q:=Q) h rl (.da (.bl _))⟩
 ·obtain⟨r,ho,hr⟩:=(a6u (X:=X) hu).ex
  exact ho pins sh σ H x y v u Q I rx ry (hr as H s x y _ _ Q rl r1 r2 h)
noncomputable def aty:ag -> Option (List ag)
 |.list ds=> some ds
 |.tuple ds=> some ds
 |_=> none
noncomputable def nb(n b:Bool):Bool:=match n with
 |true=> !b
 |false=> b
def ayi(neg:Bool)(dx dy:D)(s:S):R D:=match toP s dx,(toP s dy).bind aty with
 |some a,some ds=> if okD a=true/\ds.all okD=true then .ok (.bl (nb neg (ds.any fun d=> aM d a))) s else .bad
 |_,_=>.bad
def ary(neg:Bool)(dx dy:D)(s:S):R D:=match dx,dy with
 |.str a,.str b=>.ok (.bl (nb neg (!(eP b a 0 b.length 1).isEmpty))) s
 |dx,dy=> ayi neg dx dy s
open Classical in
theorem azj{sh:ak}{v:af}{bs:List Addr}(ra:dz sh.heap v a bs)(ha:okD a=true)(hu:A.units+64 < cLine){us:List af}{cs:List Addr}(h:cY sh.heap us ds cs)(hd:ds.all okD=true):
  ∃e:af -> Bool,(∀y∈us,lT A sh y v (e y))/\us.any e=ds.any fun d=> aM d a:=by
 refine⟨fun y=> decide (∃d cs,dz sh.heap y d cs/\aM d a=true),?_⟩
 have one: ∀{y:af} {d:ag} {cs:List Addr},dz sh.heap y d cs -> decide (∃d cs,dz sh.heap y d cs/\aM d a=true)=aM d a:=fun {y d cs} r=> by
  (rw [aW,decide_eq_true_eq])
  constructor
  ·rintro⟨d',cs',r',e⟩
   obtain⟨q,_⟩:=PyProof.Rows.reads_det (fun _ _ e _=> e) r r'
   subst q;exact e
  ·exact fun e=> ⟨d,cs,r,e⟩
 induction us generalizing ds cs with
 |nil=>
  cases h
  exact⟨fun _ z=> (by cases z),rfl⟩
 | cons u us ih=>
  cases h with
  | cons r rs=>
   rw [dJ,aG]at hd
   obtain⟨i1,i2⟩:=ih rs hd.2
   obtain⟨l1,m1⟩:=aa0 hd.1
   obtain⟨l2,m2⟩:=aa0 ha
   refine⟨fun y hy=> ?_,?_⟩
   ·rcases aw.mp hy with z|z
    ·subst z
     show lT A sh y v (decide (∃d cs,dz sh.heap y d cs/\aM d a=true))
     rw [one r]
     exact SeqAt.eqAt_reads _ _ A sh _ _ _ _ r ra l1 l2 (by lia)
    ·exact i1 y z
   ·rw [i8,i8,i2,one r]
theorem aft(A:bj):A.in1.units <=A.units+1:=by
 show (A.in1).units <=A.units+1
 first|exact au _|(unfold Around.in1;simp)|simp [Around.in1]
theorem a4t(neg:Bool){op:nc}(hop:(neg=false/\op=.In)\/(neg=true/\op=.NotIn))(hu:X.A.units+65 < cLine):Op2 X (aY op) (ayi neg):=va fun pins sh σ H as s x y dx dy v u Q I rl r1 r2 rx ry h=> by
 unfold ayi at h
 split at h
 ·rename_i a ds ea ed
  split at h
  ·rename_i hok
   obtain⟨bs1,q1⟩:=r1.reads I rl ea rx
   cases e2:toP s dy with
   |none=> rw [e2]at ed;cases ed
   | some pd=>
    rw [e2]at ed
    have ed:aty pd=some ds:=ed
    obtain⟨bs2,q2⟩:=r2.reads I rl e2 ry
    have hin:=aft X.A
    cases q2 with
    | list k1 k2 k3 k4=>
     cases ed
     obtain⟨e,he,ha⟩:=azj (A:=X.A.in1) q1 hok.1 (by lia) k4 hok.2
     rcases hop with ⟨rfl,rfl⟩|⟨rfl,rfl⟩
     ·refine SeqAt.in_listAt e ⟨_,k1,k2,_,k3⟩ (fun y hy=> he y (by simpa using hy)) ⟨.bl _,H,I,rfl,?_⟩
      rw [←gV,ha]
      exact Dn.now (Q:=Q) h rl (.da (.bl _))
     ·refine SeqAt.notIn_listAt e ⟨_,k1,k2,_,k3⟩ (fun y hy=> he y (by simpa using hy)) ⟨.bl _,H,I,rfl,?_⟩
      rw [←gV,ha]
      exact Dn.now (Q:=Q) h rl (.da (.bl _))
    | tuple k1 k2 k3 k4=>
     cases ed
     obtain⟨e,he,ha⟩:=azj (A:=X.A.in1) q1 hok.1 (by lia) k4 hok.2
     rcases hop with ⟨rfl,rfl⟩|⟨rfl,rfl⟩
     ·refine SeqAt.in_tupleAt e ⟨_,k1,k2,_,k3⟩ (fun y hy=> he y (by simpa using hy)) ⟨.bl _,H,I,rfl,?_⟩
      rw [←gV,ha]
      exact Dn.now (Q:=Q) h rl (.da (.bl _))
     ·refine SeqAt.notIn_tupleAt e ⟨_,k1,k2,_,k3⟩ (fun y hy=> he y (by simpa using hy)) ⟨.bl _,H,I,rfl,?_⟩
      rw [←gV,ha]
      exact Dn.now (Q:=Q) h rl (.da (.bl _))
    |_=> cases ed
  ·exact h.elim
 ·exact h.elim
theorem azp(neg:Bool){op:nc}(hop:(neg=false/\op=.In)\/(neg=true/\op=.NotIn))(hu:X.A.units+65 < cLine):Op2 X (aY op) (ary neg):=va fun pins sh σ H as s x y dx dy v u Q I rl r1 r2 rx ry h=> by
 unfold ary at h
 split at h
 ·rename_i a b
  cases r2.str_inv
  cases r1.str_inv
  rcases hop with ⟨rfl,rfl⟩|⟨rfl,rfl⟩
  ·exact ave pins sh σ H _ _ v u Q I rx ry ⟨a,b,rfl,rfl,Dn.now (Q:=Q) h rl (.da (.bl _))⟩
  ·exact amn pins sh σ H _ _ v u Q I rx ry ⟨a,b,rfl,rfl,Dn.now (Q:=Q) h rl (.da (.bl _))⟩
 ·obtain⟨r,ho,hr⟩:=(a4t (X:=X) neg hop hu).ex
  exact ho pins sh σ H x y v u Q I rx ry (hr as H s x y _ _ Q rl r1 r2 h)
abbrev gIn:=ary false
abbrev acg:=ary true
theorem ba2(hu:X.A.units+65 < cLine):Op2 X (aY .In) gIn:=azp false (.inl ⟨rfl,rfl⟩) hu
theorem a2j(hu:X.A.units+65 < cLine):Op2 X (aY .NotIn) acg:=azp true (.inr ⟨rfl,rfl⟩) hu
def jo(m:Bool)(dx dy:D)(s:S):R D:=match dx,dy with
 |.int i,.int j=>.ok (.int (i+j)) s
 |.bl b,.int j=>.ok (.int (b01 b+j)) s
 |.str a,.str b=> if a.length+b.length <=sizeLine then .ok (.str (a++b)) s else .bad
 |.tup xs,.tup ys=> if xs.length+ys.length <=sizeLine then .ok (.tup (xs++ys)) s else .bad
 |dx,dy=> match toL s dx,toL s dy with
  |some xs,some ys=> if xs.length+ys.length <=sizeLine then vw m (xs++ys) s else .bad
  |_,_=>.bad
theorem RD.tup_inv(h:RD K as H v (.tup ds)): ∃p xs,v=.ref p/\ ¬as.has p/\H p=some (.tup xs)/\TDs as H xs ds:=by
 cases h with|da t=> cases t with|tup n e r=> exact⟨_,_,rfl,n,e,r⟩
theorem RD.lst_inv(h:RD K as H v (.lst ds)): ∃p xs,v=.ref p/\ ¬as.has p/\H p=some (.lst xs)/\TDs as H xs ds:=by
 cases h with|da t=> cases t with|lst n e r=> exact⟨_,_,rfl,n,e,r⟩
theorem azb(m:Bool):Op2 X (binaryOp .Add) (jo m):=va fun pins sh σ H as s x y dx dy v u Q I rl r1 r2 rx ry h=> by
 unfold jo at h
 split at h
 ·rename_i i j
  cases r1.int_inv;cases r2.int_inv
  exact av0 pins sh σ H _ _ v u Q I rx ry ⟨i,j,rfl,rfl,Dn.now (Q:=Q) h rl (.da (.int _))⟩
 ·rename_i b j
  cases r1.bl_inv;cases r2.int_inv
  exact a16 pins sh σ H _ _ v u Q I rx ry ⟨b01 b,j,rfl,rfl,Dn.now (Q:=Q) h rl (.da (.int _))⟩
 ·rename_i a b
  split at h
  ·rename_i hz
   cases r1.str_inv;cases r2.str_inv
   exact aqz pins sh σ H _ _ v u Q I rx ry ⟨a,b,rfl,rfl,hz,Dn.now (Q:=Q) h rl (.da (.str _))⟩
  ·exact h.elim
 ·rename_i xs ys
  split at h
  ·rename_i hz
   obtain⟨p,vs,rfl,n1,e1,t1⟩:=r1.tup_inv
   obtain⟨q,ws,rfl,n2,e2,t2⟩:=r2.tup_inv
   refine axi pins sh σ H _ _ v u Q I rx ry ⟨p,q,vs,ws,rfl,rfl,SqT.of e1,SqT.of e2,by rw [t1.length,t2.length];exact hz,fun e=> ?_,fun _ e=> ?_,fun _ _ r H' n=> ?_⟩
   ·subst e
    cases t1
    exact Dn.now (Q:=Q) h rl (.da (.tup n2 e2 t2))
   ·subst e
    cases t2
    rw [cn]at h
    exact Dn.now (Q:=Q) h rl (.da (.tup n1 e1 t1))
   ·exact h (.ref r) as H' (j6 n) (rl.new n) (.da (.tup (fun z=> rl.has z n.no) n.at ((t1.append t2).mono (j6 n))))
  ·exact h.elim
 ·split at h
  ·rename_i xs ys e1 e2
   split at h
   ·rename_i hz
    obtain⟨p,vs,rfl,h1,t1⟩:=aba rl r1 e1
    obtain⟨q,ws,rfl,h2,t2⟩:=aba rl r2 e2
    exact a23 pins sh σ H _ _ v u Q I rx ry ⟨p,q,vs,ws,rfl,rfl,h1,h2,by rw [t1.length,t2.length];exact hz,fun r H' n=> aar h rl (t1.append t2) n⟩
   ·exact h.elim
  ·exact h.elim
def y3(dx dy:D)(s:S):R D:=match dx,dy with
 |.int i,.int j=>.ok (.int (i - j)) s
 |.bl b,.int j=>.ok (.int (b01 b - j)) s
 |.int i,.bl b=>.ok (.int (i - b01 b)) s
 |_,_=>.bad
theorem a82:Op2 X (binaryOp .Sub) y3:=va fun pins sh σ H as s x y dx dy v u Q I rl r1 r2 rx ry h=> by
 unfold y3 at h
 split at h
 ·rename_i i j
  cases r1.int_inv;cases r2.int_inv
  exact an5 pins sh σ H _ _ v u Q I rx ry ⟨i,j,rfl,rfl,Dn.now (Q:=Q) h rl (.da (.int _))⟩
 ·rename_i b j
  cases r1.bl_inv;cases r2.int_inv
  exact a2p pins sh σ H _ _ v u Q I rx ry ⟨b01 b,j,rfl,rfl,Dn.now (Q:=Q) h rl (.da (.int _))⟩
 ·rename_i i b
  cases r1.int_inv;cases r2.bl_inv
  exact a1i pins sh σ H _ _ v u Q I rx ry ⟨i,b01 b,rfl,rfl,Dn.now (Q:=Q) h rl (.da (.int _))⟩
 ·exact h.elim
instance (i j:Int):Decidable (ajr i j):=by unfold ajr;infer_instance
instance (i j:Int):Decidable (aqo i j):=by unfold aqo;infer_instance
instance (i j:Int):Decidable (ar2 i j):=by unfold ar2;infer_instance
noncomputable def gI2(C:Int -> Int -> Prop)[∀i j,Decidable (C i j)](f:Int -> Int -> Int)(dx dy:D)(s:S):R D:=match dx,dy with
 |.int i,.int j=> if C i j then .ok (.int (f i j)) s else .bad
 |_,_=>.bad
theorem aln{op:lV}{C:Int -> Int -> Prop}[∀i j,Decidable (C i j)]{f:Int -> Int -> Int}(o:OpR X (binaryOp op) (rI C fun i j=>.int (f i j))):Op2 X (binaryOp op) (gI2 C f):=va fun pins sh σ H as s x y dx dy v u Q I rl r1 r2 rx ry h=> by
 unfold gI2 at h
 split at h
 ·rename_i i j
  split at h
  ·rename_i hc
   cases r1.int_inv;cases r2.int_inv
   exact o pins sh σ H _ _ v u Q I rx ry ⟨i,j,rfl,rfl,hc,Dn.now (Q:=Q) h rl (.da (.int _))⟩
  ·exact h.elim
 ·exact h.elim
def aav:D -> D -> S -> R D:=gI2 ajr fun i j=> i*j
def af7:D -> D -> S -> R D:=gI2 aqo fun i j=> i/j
def aam:D -> D -> S -> R D:=gI2 (fun _ j=> 0 < j) fun i j=> i % j
def aqu:D -> D -> S -> R D:=gI2 ar2 fun i j=> i^j.toNat
theorem azt:Op2 X (binaryOp .Mult) aav:=aln a5x
theorem a76:Op2 X (binaryOp .FloorDiv) af7:=aln a2o
theorem a7a:Op2 X (binaryOp .Mod) aam:=aln a49
theorem a86:Op2 X (binaryOp .Pow) aqu:=aln a40
noncomputable def gC2(f:Int -> Int -> Bool)(dx dy:D)(s:S):R D:=match dx,dy with
 |.int i,.int j=>.ok (.bl (f i j)) s
 |_,_=>.bad
theorem arl{op:nc}{f:Int -> Int -> Bool}(o:OpR X (aY op) (rI0 fun i j=>.bl (f i j))):Op2 X (aY op) (gC2 f):=va fun pins sh σ H as s x y dx dy v u Q I rl r1 r2 rx ry h=> by
 unfold gC2 at h
 split at h
 ·rename_i i j
  cases r1.int_inv;cases r2.int_inv
  exact o pins sh σ H _ _ v u Q I rx ry ⟨i,j,rfl,rfl,Dn.now (Q:=Q) h rl (.da (.bl _))⟩
 ·exact h.elim
def gLe:D -> D -> S -> R D:=gC2 fun i j=> decide (i <=j)
def gGt:D -> D -> S -> R D:=gC2 fun i j=> decide (j < i)
def gGe:D -> D -> S -> R D:=gC2 fun i j=> decide (j <=i)
noncomputable def gLt(dx dy:D)(s:S):R D:=match dx,dy with
 |.int i,.int j=>.ok (.bl (decide (i < j))) s
 |.str a,.str b=>.ok (.bl (decide (a.cps.toList < b.cps.toList))) s
 |_,_=>.bad
theorem a99:Op2 X (aY .LtE) gLe:=arl a8i
theorem ba1:Op2 X (aY .Gt) gGt:=arl a71
theorem a5c:Op2 X (aY .GtE) gGe:=arl a8b
theorem a98:Op2 X (aY .Lt) gLt:=va fun pins sh σ H as s x y dx dy v u Q I rl r1 r2 rx ry h=> by
 unfold gLt at h
 split at h
 ·rename_i i j
  cases r1.int_inv;cases r2.int_inv
  exact a6v pins sh σ H _ _ v u Q I rx ry ⟨i,j,rfl,rfl,Dn.now (Q:=Q) h rl (.da (.bl _))⟩
 ·rename_i a b
  cases r1.str_inv;cases r2.str_inv
  exact aut pins sh σ H _ _ v u Q I rx ry ⟨a,b,rfl,rfl,Dn.now (Q:=Q) h rl (.da (.bl _))⟩
 ·exact h.elim
noncomputable def isN:D -> Bool
 |.non=> true
 |_=> false
theorem azq{d:D}(r:RD K as H v d):decide (v=.non)=isN d:=by
 cases r with
 |da t=> cases t <;> rfl
 |_=> rfl
def gIs(dx dy:D)(s:S):R D:=match dy with
 |.non=>.ok (.bl (isN dx)) s
 |_=>.bad
def adp(dx dy:D)(s:S):R D:=match dy with
 |.non=>.ok (.bl (!isN dx)) s
 |_=>.bad
theorem RD.non_inv(h:RD K as H v .non):v=.non:=by
 cases h with|da t=> cases t;rfl
theorem a8r:Op2 X (aY .Is) gIs:=va fun pins sh σ H as s x y dx dy v u Q I rl r1 r2 rx ry h=> by
 unfold gIs at h
 split at h
 ·cases r2.non_inv
  refine a48 pins sh σ H _ _ v u Q I rx ry ⟨rfl,?_⟩
  rw [azq r1]
  exact Dn.now (Q:=Q) h rl (.da (.bl _))
 ·exact h.elim
theorem a1e:Op2 X (aY .IsNot) adp:=va fun pins sh σ H as s x y dx dy v u Q I rl r1 r2 rx ry h=> by
 unfold adp at h
 split at h
 ·cases r2.non_inv
  refine a1h pins sh σ H _ _ v u Q I rx ry ⟨rfl,?_⟩
  rw [azq r1]
  exact Dn.now (Q:=Q) h rl (.da (.bl _))
 ·exact h.elim
def amb(f:FE):FE:=fun ρ s=> (f ρ s).bind fun d s1=> match d with
 |.int i=>.ok (.int (-i)) s1
 |_=>.bad
theorem bb7{a:Expr}(h:RE X a fa):RE X (.UnaryOp .USub a pos) (amb fa):=by
 obtain⟨t,p,r⟩:=h.ex
 refine⟨_,a84 a58 p,fun as σ H ρ s Q rl en h=> ?_⟩
 refine r as σ H ρ s _ rl en (Dn.bind h fun d s1 as1 H1 v st1 rl1 r1 h1=> ?_)
 split at h1
 ·cases r1.int_inv
  exact⟨_,rfl,Dn.now (Q:=Q) h1 rl1 (.da (.int _))⟩
 ·exact h1.elim
end PF
namespace PF
open PySem PySem.Spec
open L2
variable[XW]
noncomputable def aek(s:S):D -> Option (List D)
 |.lst ds=> some (ds.map D.da)
 |.tup ds=> some (ds.map D.da)
 |.con ds=> some (ds.map D.da)
 |.frz ds=> some (ds.map D.da)
 |.ref n=> match s[n]? with
  |some (.lst ds)=> some ds
  |_=> none
 |_=> none
theorem ady{d:D}{ds:List D}(rl:Rel K as H s)(r:RD K as H v d)(h:aek s d=some ds): ∃p xs,v=.ref p/\(SqL K H p xs\/SqT K H p xs)/\RDs K as H xs ds:=by
 cases r with
 |da t=>
  cases t with
  |lst n e q=> cases h;exact⟨_,_,rfl,.inl (SqL.of e),q.rd⟩
  |tup n e q=> cases h;exact⟨_,_,rfl,.inr (SqT.of e),q.rd⟩
  |_=> cases h
 |con q r=> cases h;exact⟨_,_,rfl,.inr (q H),r.rd⟩
 |frz q r=> cases h;exact⟨_,_,rfl,.inl (q as H (Step.refl _ _).toStep0),r.rd⟩
 | @ref p n l hr=>
  have h:(match s[n]? with|some (O.lst ds)=> some ds|_=> none)=some ds:=h
  split at h
  ·rename_i ys e
   cases h
   obtain⟨_,xs,hx,rs⟩:=yx rl hr e
   exact⟨p,xs,rfl,.inl (SqL.of hx),rs⟩
  ·cases h
 |_=> cases h
theorem RDs.atI{xs:List V}{ds:List D}{d:D}(r:RDs K as H xs ds)(h:atI ds i=some d): ∃v,atI xs i=some v/\RD K as H v d:=by
 unfold L2.atI at h⊢
 rw [r.length]
 cases q:ixN ds.length i with
 |none=> rw [q]at h;cases h
 |some j=>
  rw [q]at h
  obtain⟨v,hv,rv⟩:=r.get (show ds[j]?=some d from h)
  exact⟨v,hv,rv⟩
def gIx(dx dy:D)(s:S):R D:=match dx,dy with
 | .str z,.int i=> if z.length <=sizeLine then match atI z.cps.toList i with
   |some c=>.ok (.str ⟨#[c]⟩) s
   |none=>.bad
  else .bad
 | dx,.int i=> match aek s dx with
  |some ds=> match atI ds i with
   |some d=>.ok d s
   |none=>.bad
  |none=>.bad
 |_,_=>.bad
theorem a4k:anv K (rIx K) gIx:=by
 intro as H s x y dx dy Q rl r1 r2 h
 unfold gIx at h
 split at h
 ·rename_i z i
  cases r1.str_inv;cases r2.int_inv
  split at h
  ·rename_i hz
   split at h
   ·rename_i c e
    exact .inr (.inr ⟨z,i,c,rfl,rfl,hz,e,Dn.now (Q:=Q) h rl (.da (.str _))⟩)
   ·exact h.elim
  ·exact h.elim
 ·rename_i i _
  cases r2.int_inv
  split at h
  ·rename_i ds e
   split at h
   ·rename_i d e2
    obtain⟨p,xs,rfl,sq,rs⟩:=ady rl r1 e
    obtain⟨v,hv,rv⟩:=rs.atI e2
    rcases sq with sq|sq
    ·exact .inl ⟨p,xs,i,v,rfl,rfl,sq,hv,Dn.now (Q:=Q) h rl rv⟩
    ·exact .inr (.inl ⟨p,xs,i,v,rfl,rfl,sq,hv,Dn.now (Q:=Q) h rl rv⟩)
   ·exact h.elim
  ·exact h.elim
 ·exact h.elim
theorem a88{a b:Expr}{fb:FE}(ha:RE X a fa)(hb:RE X b fb)(hs:aol b:=by exact fun _ _=> rfl):RE X (.Subscript a b pos) (fOp gIx fa fb):=by
 obtain⟨ta,pa,ra⟩:=ha.ex
 obtain⟨tb,pb,rb⟩:=hb.ex
 exact⟨_,a7o a6f pa pb hs,aia a4k ra rb⟩
def qh{α:Type}(xs:List α)(lo hi:Option Int):List α:=(xs.drop (HT.sIx xs.length 0 lo)).take (HT.sIx xs.length xs.length hi - HT.sIx xs.length 0 lo)
theorem RDs.cut{xs:List V}{ds:List D}(r:RDs K as H xs ds)(lo hi:Option Int):RDs K as H (zm xs lo hi) (qh ds lo hi):=by
 unfold zm qh
 rw [r.length]
 exact (r.drop _).take _
theorem TDs.cut{xs:List V}(r:TDs as H xs ds)(lo hi:Option Int):TDs as H (zm xs lo hi) (qh ds lo hi):=by
 unfold zm qh
 rw [r.length]
 exact (r.drop _).take _
noncomputable def af6(z:Str)(lo hi:Option Int):Str:=if ((di lo hi 1 z.length).length==z.length)=true then z else ⟨((di lo hi 1 z.length).filterMap (z.cps[·]?)).toArray⟩
def ba0:V -> Option Int -> Option Int -> Hp -> VK -> Prop:=fun x lo hi H Q=> ∃z,x=.str z/\z.length <=sizeLine/\Q (.str (af6 z lo hi)) H
theorem a2n:SlR X ba0:=by
 intro pins s σ H x v vl vu lo hi sl Q I rx hs pl pu h
 obtain⟨z,rfl,hz,q⟩:=h
 obtain⟨t,rfl⟩:=rx
 obtain⟨l,rfl,el⟩:=part_of pl
 obtain⟨u,rfl,eu⟩:=part_of pu
 refine⟨"str",_,PySem.F.slot_str_getitem.lookup,rfl,?_⟩
 have hs':s.heap.IsSlice sl l u none:=by
  obtain⟨o,ho,hc,hd⟩:=hs
  exact⟨o,ho,hc,hd⟩
 refine wpAny_getItem_str_slice hs' rfl ?_
 have ep:gP z l u none=di lo hi 1 z.length:=by
  unfold gP
  rw [el,eu];rfl
 have hlen:(gP z l u none).length <=z.length:=sliceIndices_le _ _ _
 have hfl:((gP z l u none).filterMap (z.cps[·]?)).length <=z.length:=aH (kD _ _) hlen
 unfold af6 at q
 rw [←ep]at q
 unfold sliceMade
 split
 ·rename_i c
  rw [if_pos (by simpa using c)]at q
  exact⟨.str z,H,I,⟨t,rfl⟩,q⟩
 ·rename_i c
  rw [if_neg (by simpa using c)]at q
  have len:(⟨((gP z l u none).filterMap (z.cps[·]?)).toArray⟩:Str).length <=z.length:=by
   show (((gP z l u none).filterMap (z.cps[·]?)).toArray).size <=z.length
   rw [ax];exact hfl
  exact⟨aH len hz,.str _,H,I.tok _,⟨_,rfl⟩,q⟩
def gSl(m:Bool)(d:D)(lo hi:Option Int)(s:S):R D:=match d with
 |.str z=> if z.length <=sizeLine then .ok (.str (af6 z lo hi)) s else .bad
 |.tup ds=>.ok (.tup (qh ds lo hi)) s
 |.frz ds=> vw m (qh (ds.map D.da) lo hi) s
 |d=> match toL s d with
  |some ds=> vw m (qh ds lo hi) s
  |none=>.bad
abbrev FO:=En -> S -> R (Option Int)
noncomputable def fNo:FO:=fun _ s=>.ok none s
def kh(f:FE):FO:=fun ρ s=> (f ρ s).bind fun d s1=> match d with
 |.int i=>.ok (some i) s1
 |_=>.bad
def a9z(K:am)(t:TO)(f:FO):Prop:= ∀as σ H ρ s Q,Rel K as H s -> Envs K as H ρ σ -> Dn K (fun _ _ (b a:Option Int)=> b=a) as H (f ρ s) Q -> t σ H Q
structure ROp (X:Cx) (e:Option Expr) (f:FO):Prop where
 ex: ∃t,PO X e t/\a9z X.K t f
theorem baa:ROp X none fNo:=⟨_,a0r,fun as σ H ρ s Q rl en h=> Dn.now (Q:=Q) h rl rfl⟩
theorem bal{a:Expr}(h:RE X a fa):ROp X (some a) (kh fa):=by
 obtain⟨t,p,r⟩:=h.ex
 refine⟨_,a10 p,fun as σ H ρ s Q rl en h=> ?_⟩
 refine r as σ H ρ s _ rl en (Dn.bind h fun d s1 as1 H1 v st1 rl1 r1 h1=> ?_)
 split at h1
 ·cases r1.int_inv
  exact⟨_,rfl,Dn.now (Q:=Q) h1 rl1 rfl⟩
 ·exact h1.elim
def fSl(m:Bool)(f:FE)(lo hi:FO):FE:=fun ρ s=> (f ρ s).bind fun d s1=> (lo ρ s1).bind fun l s2=> (hi ρ s2).bind fun u s3=> gSl m d l u s3
theorem a9h(m:Bool){a:Expr}{lo hi:Option Expr}{fl fu:FO}{p2:Pos}(ha:RE X a fa)(hl:ROp X lo fl)(hu:ROp X hi fu):RE X (.Subscript a (.Slice lo hi none p2) pos) (fSl m fa fl fu):=by
 obtain⟨ta,pa,ra⟩:=ha.ex
 obtain⟨tl,pl,rl'⟩:=hl.ex
 obtain⟨tu,pu,ru⟩:=hu.ex
 refine⟨_,ay1 (a2n.or (a2f.or ayk)) pa pl pu,fun as σ H ρ s Q rl en h=> ?_⟩
 refine ra as σ H ρ s _ rl en (Dn.bind h fun d s1 as1 H1 v st1 rl1 r1 h1=> ?_)
 refine rl' as1 σ H1 ρ s1 _ rl1 (en.mono st1) (Dn.bind h1 fun l s2 as2 H2 l' st2 rl2 e2 h2=> ?_)
 have e2:l'=l:=e2
 subst e2
 refine ru as2 σ H2 ρ s2 _ rl2 ((en.mono st1).mono st2) (Dn.bind h2 fun u s3 as3 H3 u' st3 rl3 e3 h3=> ?_)
 have e3:u'=u:=e3
 subst e3
 have r1:=(r1.mono st2).mono st3
 unfold gSl at h3
 split at h3
 ·cases r1.str_inv
  split at h3
  ·rename_i hz
   exact .inl ⟨_,rfl,hz,Dn.now (Q:=Q) h3 rl3 (.da (.str _))⟩
  ·exact h3.elim
 ·obtain⟨p,xs,rfl,n,e,t⟩:=r1.tup_inv
  refine .inr (.inl ⟨p,xs,rfl,SqT.of e,fun c=> ?_,fun q H' nw=> ?_⟩)
  ·have t2:=t.cut l' u'
   rw [c]at t2
   exact Dn.now (Q:=Q) h3 rl3 (.da (.tup n e t2))
  ·exact h3 (.ref q) as3 H' (j6 nw) (rl3.new nw) (.da (.tup (fun z=> rl3.has z nw.no) nw.at ((t.cut l' u').mono (j6 nw))))
 ·cases r1 with
  |frz q t=> exact .inr (.inr ⟨_,_,rfl,q as3 H3 (Step.refl _ _).toStep0,fun r H' nw=> aar h3 rl3 (t.rd.cut l' u') nw⟩)
 ·split at h3
  ·rename_i ds e
   obtain⟨p,xs,rfl,hx,rs⟩:=aba rl3 r1 e
   exact .inr (.inr ⟨p,xs,rfl,SqL.of hx,fun r H' nw=> aar h3 rl3 (rs.cut l' u') nw⟩)
  ·exact h3.elim
def awi(fa fs:FE):FE:=fun ρ s=> (fa ρ s).bind fun d s1=> (fs ρ s1).bind fun k s2=> match d,k with
 |.tup ds,.int (-1)=>.ok (.tup ds.reverse) s2
 |_,_=>.bad
theorem bcr{a st:Expr}{fs:FE}{p2:Pos}(ha:RE X a fa)(hs:RE X st fs):RE X (.Subscript a (.Slice none none (some st) p2) pos) (awi fa fs):=by
 obtain⟨ta,pa,ra⟩:=ha.ex
 obtain⟨tb,pb,rb⟩:=hs.ex
 refine⟨_,a5e pa pb,fun as σ H ρ s Q rl en h=> ?_⟩
 refine ra as σ H ρ s _ rl en (Dn.bind h fun d s1 as1 H1 v st1 rl1 r1 h1=> ?_)
 refine rb as1 σ H1 ρ s1 _ rl1 (en.mono st1) (Dn.bind h1 fun k s2 as2 H2 w st2 rl2 r2 h2=> ?_)
 split at h2
 ·obtain⟨p,xs,rfl,n,e,t⟩:=(r1.mono st2).tup_inv
  cases r2.int_inv
  refine⟨p,xs,rfl,rfl,SqT.of e,fun q H' nw=> ?_⟩
  exact h2 (.ref q) as2 H' (j6 nw) (rl2.new nw) (.da (.tup (fun z=> rl2.has z nw.no) nw.at (t.reverse.mono (j6 nw))))
 ·exact h2.elim
def ard(d:D)(s:S):R Bool:=match d with
 |.non=>.ok false s
 |.bl b=>.ok b s
 |.int i=>.ok (i !=0) s
 |.str z=> if z.length <=sizeLine then .ok ((z.length:Int) !=0) s else .bad
 |d=> match aek s d with
  |some ds=>.ok (!ds.isEmpty) s
  |none=>.bad
def j2(f:FE):FT:=fun ρ s=> (f ρ s).bind ard
theorem RDs.empty{xs:List V}{ds:List D}(r:RDs K as H xs ds):xs.isEmpty=ds.isEmpty:=by cases r <;> rfl
theorem adq{a:Expr}(h:RE X a fa)(he: ∀whole,isTrue a X.env whole=(do let v←whole;standAt a.pos;holding [v] (truthy v)):=by exact fun _=> rfl):RT X a (j2 fa):=by
 obtain⟨t,p,r⟩:=h.ex
 refine⟨_,awc p he,fun as σ H ρ s Q rl en h=> ?_⟩
 refine r as σ H ρ s _ rl en (Dn.bind h fun d s1 as1 H1 v st1 rl1 r1 h1=> ?_)
 unfold ard at h1
 split at h1
 ·cases r1.non_inv;exact⟨false,rfl,Dn.now (Q:=Q) h1 rl1 rfl⟩
 ·cases r1.bl_inv;exact⟨_,rfl,Dn.now (Q:=Q) h1 rl1 rfl⟩
 ·cases r1.int_inv;exact⟨_,rfl,Dn.now (Q:=Q) h1 rl1 rfl⟩
 ·cases r1.str_inv
  split at h1
  ·rename_i hz
   exact⟨_,⟨hz,rfl⟩,Dn.now (Q:=Q) h1 rl1 rfl⟩
  ·exact h1.elim
 ·split at h1
  ·rename_i ds e
   obtain⟨p,xs,rfl,sq,rs⟩:=ady rl1 r1 e
   refine⟨!xs.isEmpty,?_,?_⟩
   ·rcases sq with sq|sq
    ·exact .inl ⟨xs,sq,rfl⟩
    ·exact .inr (.inl ⟨xs,sq,rfl⟩)
   ·rw [rs.empty];exact Dn.now (Q:=Q) h1 rl1 rfl
  ·exact h1.elim
structure CB (X:Cx) (f:af) (g:FF):Prop where
 ex: ∃r,vb X f r/\ ∀as H s xs ds Q,Rel X.K as H s -> RDs X.K as H xs ds -> Dn X.K (rD X.K) as H (g ds s) Q -> r xs H Q
theorem ab5{f:af}{g:FF}(h: ∀(pins:List (Addr×Obj)) (sh:ak) (σ:St) (H:Hp) (as:As) (s:S) (xs:List V) (ds:List D) (us:List af) (Q:VK),Inv X pins σ H sh -> Rel X.K as H s -> RDs X.K as H xs ds -> jm xs us ->
  Dn X.K (rD X.K) as H (g ds s) Q -> wpAny (model X.prog X.w) X.A (call f us) (EP X pins σ Q) X.xe sh):CB X f g:=
 ⟨fun xs H Q=> ∃as s ds,Rel X.K as H s/\RDs X.K as H xs ds/\Dn X.K (rD X.K) as H (g ds s) Q,fun pins sh σ H xs us Q I r ⟨as,s,ds,rl,rs,q⟩=> h pins sh σ H as s xs ds us Q I rl rs r q,fun as H s xs ds Q rl rs q=> ⟨as,s,ds,rl,rs,q⟩⟩
def fCB(g:FF)(f:FA):FE:=fun ρ s=> (f ρ s).bind g
section
variable{x:Str}{id:String}{g:FF}{f:FA}{e:Expr}{es:List Expr}{p pos:Pos}
theorem aun{r:List V -> Hp -> VK -> Prop}{t:TA}(hr: ∀as H s xs ds Q,Rel K as H s -> RDs K as H xs ds -> Dn K (rD K) as H (g ds s) Q -> r xs H Q)(h:a4h K t f):aaz K (tCB r t) (fCB g f):=by
 intro as σ H ρ s Q rl en q
 exact h as σ H ρ s _ rl en (Dn.bind q fun ds s1 as1 H1 vs st1 rl1 r1 h1=> hr as1 H1 s1 vs ds Q rl1 r1 h1)
theorem aa5(c:CB X (.builtin id) g)(hm:X.mg x=none)(hv:bo x=some (.builtin id))(ha:RA X (e::es) f)(hg:Gl X x:=by rfl)(hn:x≠"__name__":=by decide)(hdb:(x==("__debug__":Str))=false:=by decide)
  (hs:starEach (e::es) X.env=(false,eval e X.env)::starEach es X.env:=by rfl) (hpl:(backTo pos (starEach es X.env)).any (·.1)=false:=by rfl):RE X (.Call (.Name x p) (e::es) [] pos) (fCB g f):=by
 obtain⟨r,hc,hr⟩:=c.ex
 obtain⟨t,pa,ra⟩:=ha.ex
 exact⟨_,ahg hc hg hm hv pa hn hdb hs hpl,aun hr ra⟩
theorem alr(c:CB X (.type id) g)(hm:X.mg x=none)(hv:bo x=some (.type id))(ha:RA X (e::es) f)(hg:Gl X x:=by rfl)(hn:x≠"__name__":=by decide)(hdb:(x==("__debug__":Str))=false:=by decide)
  (hs:starEach (e::es) X.env=(false,eval e X.env)::starEach es X.env:=by rfl) (hpl:(backTo pos (starEach es X.env)).any (·.1)=false:=by rfl):RE X (.Call (.Name x p) (e::es) [] pos) (fCB g f):=by
 obtain⟨r,hc,hr⟩:=c.ex
 obtain⟨t,pa,ra⟩:=ha.ex
 exact⟨_,afy hc hg hm hv pa hn hdb hs hpl,aun hr ra⟩
end
def jr(ds:List D)(s:S):R D:=match ds with
 |[.str z]=> if z.length <=sizeLine then .ok (.int z.length) s else .bad
 |[d]=> match aek s d with
  |some xs=>.ok (.int xs.length) s
  |none=>.bad
 |_=>.bad
theorem as0:CB X (.builtin "len") jr:=ab5 fun pins sh σ H as s xs ds us Q I rl rs ru h=> by
 unfold jr at h
 split at h
 ·obtain⟨v,rfl,rv⟩:=rs.one
  cases rv.str_inv
  split at h
  ·rename_i hz
   exact am0 pins sh σ H _ us Q I ru ⟨_,rfl,hz,Dn.now (Q:=Q) h rl (.da (.int _))⟩
  ·exact h.elim
 ·obtain⟨v,rfl,rv⟩:=rs.one
  split at h
  ·rename_i ys e
   obtain⟨p,zs,rfl,sq,rz⟩:=ady rl rv e
   refine alv pins sh σ H _ us Q I ru ⟨p,zs,rfl,sq,?_⟩
   rw [rz.length]
   exact Dn.now (Q:=Q) h rl (.da (.int _))
  ·exact h.elim
 ·exact h.elim
noncomputable def afd(ds:List D)(s:S):R D:=match ds with
 |[.int i,.int j]=>.ok (.int (if j < i then j else i)) s
 |_=>.bad
noncomputable def ajq(ds:List D)(s:S):R D:=match ds with
 |[.int i,.int j]=>.ok (.int (if j > i then j else i)) s
 |_=>.bad
theorem a72(hc:X.calm=true):CB X (.builtin "min") afd:=ab5 fun pins sh σ H as s xs ds us Q I rl rs ru h=> by
 unfold afd at h
 split at h
 ·obtain⟨v,w,rfl,rv,rw⟩:=rs.two
  cases rv.int_inv;cases rw.int_inv
  exact ati hc pins sh σ H _ us Q I ru ⟨_,_,rfl,Dn.now (Q:=Q) h rl (.da (.int _))⟩
 ·exact h.elim
theorem a85(hc:X.calm=true):CB X (.builtin "max") ajq:=ab5 fun pins sh σ H as s xs ds us Q I rl rs ru h=> by
 unfold ajq at h
 split at h
 ·obtain⟨v,w,rfl,rv,rw⟩:=rs.two
  cases rv.int_inv;cases rw.int_inv
  exact asi hc pins sh σ H _ us Q I ru ⟨_,_,rfl,Dn.now (Q:=Q) h rl (.da (.int _))⟩
 ·exact h.elim
def aae(m:Bool)(ds:List D)(s:S):R D:=match ds with
 |[d]=> match aek s d with
  |some xs=> vw m xs s
  |none=>.bad
 |_=>.bad
theorem au1(m:Bool):CB X (.type "list") (aae m):=ab5 fun pins sh σ H as s xs ds us Q I rl rs ru h=> by
 unfold aae at h
 split at h
 ·obtain⟨v,rfl,rv⟩:=rs.one
  split at h
  ·rename_i ys e
   obtain⟨p,zs,rfl,sq,rz⟩:=ady rl rv e
   exact arp pins sh σ H _ us Q I ru ⟨p,zs,rfl,sq,fun r H' nw=> aar h rl rz nw⟩
  ·exact h.elim
 ·exact h.elim
def qp(ds:List D)(s:S):R D:=match ds with
 |[.tup xs]=>.ok (.tup xs) s
 |[.frz xs]=>.ok (.tup xs) s
 |[d]=> match toL s d with
  |some xs=> ahf xs s
  |none=>.bad
 |_=>.bad
theorem a24:CB X (.type "tuple") qp:=ab5 fun pins sh σ H as s xs ds us Q I rl rs ru h=> by
 unfold qp at h
 split at h
 ·obtain⟨v,rfl,rv⟩:=rs.one
  obtain⟨p,zs,rfl,n,e,t⟩:=rv.tup_inv
  exact ad9 pins sh σ H _ us Q I ru ⟨p,zs,rfl,.inr ⟨SqT.of e,Dn.now (Q:=Q) h rl (.da (.tup n e t))⟩⟩
 ·obtain⟨v,rfl,rv⟩:=rs.one
  cases rv with
  |frz q t=> exact ad9 pins sh σ H _ us Q I ru ⟨_,_,rfl,.inl ⟨q as H (Step.refl _ _).toStep0,fun r H' nw=> h (.ref r) as H' (j6 nw) (rl.new nw) (.da (.tup (fun z=> rl.has z nw.no) nw.at (t.mono (j6 nw))))⟩⟩
 ·obtain⟨v,rfl,rv⟩:=rs.one
  split at h
  ·rename_i ys e
   obtain⟨p,zs,rfl,hx,rz⟩:=aba rl rv e
   exact ad9 pins sh σ H _ us Q I ru ⟨p,zs,rfl,.inl ⟨SqL.of hx,fun r H' nw=> aq5 h rl rz nw⟩⟩
  ·exact h.elim
 ·exact h.elim
def ku (ds:List D) (s:S):R D:=match ds with
 | [d,.ty n]=> if n="str"\/n="int"\/n="bool"\/n="tuple"\/n="list" then match d with
   |.da d=>.ok (.bl (kj d n)) s
   |.ref k=> match s[k]? with
    |some (.lst _)=>.ok (.bl (n=="list")) s
    |_=>.bad
   |_=>.bad
  else .bad
 |_=>.bad
theorem TD.ty(t:TD as H v d):TyOf K H v (.type (tyD d)):=by
 cases t with
 |non=> exact .non
 |bl b=> exact .bl b
 |int i=> exact .int i
 |str x=> exact .str x
 |tup n e w=> exact .tup e
 |lst n e w=> exact .lst e
 |dct n e=> exact .dK e
 |dc1 n e q=> exact .dK e
theorem ar5:CB X (.builtin "isinstance") ku:=ab5 fun pins sh σ H as s xs ds us Q I rl rs ru h=> by
 unfold ku at h
 split at h
 ·rename_i d n
  obtain⟨v,w,rfl,rv,rw⟩:=rs.two
  obtain⟨u,u2,rfl,ru1,ru2⟩:=vals2 ru
  cases rw
  cases (show u2=bE n from ru2)
  split at h
  ·rename_i hn
   split at h
   ·rename_i d
    cases rv with
    |da t=> exact aki I ru1 t.ty (atg X.K d n hn) fun tk=> ⟨.bl _,H,I.tok _,rfl,Dn.now (Q:=Q) h rl (.da (.bl _))⟩
   ·rename_i k
    split at h
    ·rename_i ys e
     cases rv with
     |ref l hr=>
      obtain⟨_,zs,hz,_⟩:=yx rl hr e
      exact aki I ru1 (.lst hz) (atg X.K (.list []) n hn) fun tk=> ⟨.bl _,H,I.tok _,rfl,Dn.now (Q:=Q) h rl (.da (.bl _))⟩
    ·exact h.elim
   ·exact h.elim
  ·exact h.elim
 ·exact h.elim
end PF
namespace PF
open PySem PySem.Spec
open L2
variable[XW]
abbrev GM:=D -> List D -> S -> R D
def fMt(g:GM)(fo:FE)(fa:FA):FE:=fun ρ s=> (fo ρ s).bind fun d s1=> if (toL s1 d).isSome=true then (fa ρ s1).bind fun ds s2=> g d ds s2 else .bad
structure MB (X:Cx) (id:String) (g:GM):Prop where
 ex: ∃r,MtR X id r/\ ∀as H s x xs d ds Q,Rel X.K as H s -> RD X.K as H x d -> RDs X.K as H xs ds -> Dn X.K (rD X.K) as H (g d ds s) Q -> r x xs H Q
theorem a06{d:D}(rl:Rel K as H s)(r:RD K as H v d)(h:(toL s d).isSome=true):tyV K "list" v H:=by
 cases e:toL s d with
 |none=> rw [e]at h;cases h
 |some ds=>
  obtain⟨p,xs,rfl,hx,_⟩:=aba rl r e
  exact .inl ⟨rfl,xs,SqL.of hx⟩
theorem azm{o:Expr}{fa:FA}{name:Str}{id:String}{g:GM}{apos cpos:Pos}(slot:Slot "list" name id)(hty:typeOf (.builtin id)=pure (.type "method_descriptor"))(hm:MB X id g)(ho:RE X o fo)(ha:RA X (e::es) fa)(hbase:attributeBase o name X.env (eval o X.env)=eval o X.env:=by rfl)(hfew:((backTo cpos (starEach (e::es) X.env)).all (fun x=> !x.1)&&(backToKw cpos (gM [] X.env)).all (fun x=> x.1.isSome)
   &&decide ((e::es).length+([]:List Keyword).length+(if ([]:List Keyword).isEmpty then 0 else 1) < 30))=true:=by rfl) (hline:(apos.endLine==cpos.line)=true:=by rfl) (hs:starEach (e::es) X.env=(false,eval e X.env)::starEach es X.env:=by rfl) (hplain:(backTo cpos (starEach es X.env)).any (·.1)=false:=by rfl):
  RE X (.Call (.Attribute o name apos) (e::es) [] cpos) (fMt g fo fa):=by
 obtain⟨r,hr,hg⟩:=hm.ex
 obtain⟨to,po,ro⟩:=ho.ex
 obtain⟨ta,pa,ra⟩:=ha.ex
 refine⟨_,a6p PySem.F.plainAttrs_list slot hty hr po pa hbase hfew hline hs hplain,fun as σ H ρ s Q rl en h=> ?_⟩
 refine ro as σ H ρ s _ rl en (Dn.bind h fun d s1 as1 H1 v st1 rl1 r1 h1=> ?_)
 split at h1
 ·rename_i hl
  refine⟨a06 rl1 r1 hl,ra as1 σ H1 ρ s1 _ rl1 (en.mono st1) (Dn.bind h1 fun ds s2 as2 H2 vs st2 rl2 r2 h2=> ?_)⟩
  exact hg as2 H2 s2 v vs d ds Q rl2 (r1.mono st2) r2 h2
 ·exact h1.elim
theorem an7{p:Addr}{o:HO}{H':Hp}{d:D}{ys:List V}{es:List D}{Q:VK}(rl:Rel K as H s)(ha:as.ix[n]?=some (some p))(c:Chg H p (.lst ys) H')(rs:RDs K as H ys es)(rv:RD K as H v d)(h:Dn K (rD K) as H (.ok d (s.set n (.lst es))) Q):Q v H':=by
 have st:=ahr (qk.mpr ⟨n,ha⟩) (fun z=> rl.hx p z (qk.mpr ⟨n,ha⟩)) c
 exact h v as H' st (rl.chg ha c ⟨ys,c.at,rs.mono st⟩) (rv.mono st)
noncomputable def onL(d:D)(s:S)(k:Nat -> List D -> R D):R D:=match d with
 |.ref n=> match s[n]? with
  |some (.lst ds)=> k n ds
  |_=>.bad
 |_=>.bad
theorem ams{d:D}{k:Nat -> List D -> R D}{Q:VK}(rl:Rel K as H s)(r:RD K as H v d)(h:Dn K (rD K) as H (onL d s k) Q): ∃p n xs ds,v=.ref p/\as.ix[n]?=some (some p)/\H p=some (.lst xs)/\RDs K as H xs ds/\Dn K (rD K) as H (k n ds) Q:=by
 cases r with
 | @ref p n l hr=>
  have h:Dn K (rD K) as H (match s[n]? with|some (O.lst ds)=> k n ds|_=>.bad) Q:=h
  split at h
  ·rename_i ds e
   obtain⟨ha,xs,hx,rs⟩:=yx rl hr e
   exact⟨p,n,xs,ds,rfl,ha,hx,rs,h⟩
  ·exact h.elim
 |_=> exact h.elim
def vd:GM:=fun d ds s=> match ds with
 |[x]=> onL d s fun n xs=> if xs.length < sizeLine then .ok .non (s.set n (.lst (xs++ [x]))) else .bad
 |_=>.bad
theorem axt:MB X "list.append" vd:=⟨_,ar9,fun as H s x xs d ds Q rl r rs h=> by
 unfold vd at h
 split at h
 ·obtain⟨v,rfl,rv⟩:=rs.one
  obtain⟨p,n,ys,es,rfl,ha,hy,re,h⟩:=ams rl r h
  split at h
  ·rename_i hz
   exact⟨p,ys,v,rfl,rfl,hy,by rw [re.length];exact hz,fun H' c=> an7 (o:=.lst []) rl ha c (re.append (.cons rv .nil)) (.da .non) h⟩
  ·exact h.elim
 ·exact h.elim⟩
def abn:GM:=fun d ds s=> match ds with
 | [.int i]=> onL d s fun n xs=> if -(2^63) <=i/\i < 2^63 then match iS i xs.length with
   |some k=> match xs[k]? with
    |some y=>.ok y (s.set n (.lst (xs.eraseIdx k)))
    |none=>.bad
   |none=>.bad
  else .bad
 |_=>.bad
theorem a2c:MB X "list.pop" abn:=⟨_,av8,fun as H s x xs d ds Q rl r rs h=> by
 unfold abn at h
 split at h
 ·obtain⟨v,rfl,rv⟩:=rs.one
  cases rv.int_inv
  obtain⟨p,n,ys,es,rfl,ha,hy,re,h⟩:=ams rl r h
  split at h
  ·rename_i hz
   split at h
   ·rename_i k e
    split at h
    ·rename_i y ey
     obtain⟨w,hw,rw⟩:=re.get ey
     exact⟨p,ys,_,k,w,rfl,rfl,hy,hz.1,hz.2,by rw [re.length];exact e,hw,fun H' c=> an7 (o:=.lst []) rl ha c (re.eraseIdx k) rw h⟩
    ·exact h.elim
   ·exact h.elim
  ·exact h.elim
 ·exact h.elim⟩
def abt(o i v:D)(s:S):R D:=match i with
 |.int k=> onL o s fun n xs=> match ixN xs.length k with
  |some j=>.ok .non (s.set n (.lst (xs.set j v)))
  |none=>.bad
 |_=>.bad
def abd(fv fo fi:FE):FS:=fun ρ s=> (fv ρ s).bind fun v s1=> (fo ρ s1).bind fun o s2=> (fi ρ s2).bind fun i s3=> (abt o i v s3).bind fun _ s4=>.ok (.nx ρ) s4
theorem bbe{o i:Expr}{fi fv:FE}{pos':Pos}(he:RE X e fv)(ho:RE X o fo)(hi:RE X i fi)(ha: ∀v,assign (.Subscript o i pos') X.env v=(do
   let ov←holding [v] (eval o X.env)
   let iv←holding [v,ov] (eval i X.env)
   standAt pos'
   holding [v,ov,iv] (setItem ov iv v)
   release [v,ov,iv] []):=by intro _;rfl) (hs:mf [.Subscript o i pos'] e pos.line X.env=pure false:=by rfl) (hw:mh [.Subscript o i pos'] e X.env=pure none:=by rfl) (h1:(bF [.Subscript o i pos'] X.env).map (·.2)=[assign (.Subscript o i pos') X.env]:=by rfl):RS X (.Assign [.Subscript o i pos'] e pos) (abd fv fo fi):=by
 obtain⟨te,pe,re⟩:=he.ex
 obtain⟨to,po,ro⟩:=ho.ex
 obtain⟨ti,pi,ri⟩:=hi.ex
 refine⟨_,asn pe (a4p po pi ava ha) hs hw h1,fun as σ H ρ s D rl en h=> ?_⟩
 refine re as σ H ρ s _ rl en (Dn.bind h fun v s1 as1 H1 vv st1 rl1 r1 h1=> ?_)
 refine ro as1 σ H1 ρ s1 _ rl1 (en.mono st1) (Dn.bind h1 fun o s2 as2 H2 ov st2 rl2 r2 h2=> ?_)
 refine ri as2 σ H2 ρ s2 _ rl2 ((en.mono st1).mono st2) (Dn.bind h2 fun i s3 as3 H3 iv st3 rl3 r3 h3=> ?_)
 have en3:=((en.mono st1).mono st2).mono st3
 have h3:Dn X.K (rD X.K) as3 H3 (abt o i v s3) (fun _ H'=> D.nx σ H'):=Dn.bind h3 fun d s4 as4 H4 vv st4 rl4 r4 h4=> Dn.now (b:=FV.nx σ) h4 rl4 (.nx (en3.mono st4))
 unfold abt at h3
 split at h3
 ·cases r3.int_inv
  obtain⟨p,n,xs,ds,rfl,ha,hx,rs,h3⟩:=ams rl3 (r2.mono st3) h3
  split at h3
  ·rename_i j e
   refine⟨p,xs,_,j,rfl,rfl,hx,by rw [rs.length];exact e,fun H' c=> ?_⟩
   exact an7 (v:=.non) (o:=.lst []) rl3 ha c (rs.set j ((r1.mono st2).mono st3)) (.da .non) h3
  ·exact h3.elim
 ·exact h3.elim
noncomputable def acp:List D -> Option (List Str)
 |[]=> some []
 |.str x::r=> match acp r with
  |some xs=> some (x::xs)
  |none=> none
 |_=> none
theorem aon: ∀{xs:List V} {ds:List D} {ss:List Str},RDs K as H xs ds -> acp ds=some ss -> xs=ss.map V.str/\ds=ss.map D.str
 |_,[],ss,r,h=> by cases r;cases h;exact⟨rfl,rfl⟩
 | _,d::ds,ss,r,h=> by
  cases r with
  | cons r rs=>
   unfold acp at h
   split at h
   ·rename_i e;cases e
   ·rename_i x rr e
    cases e
    split at h
    ·rename_i ys e2
     cases h
     obtain⟨h1,h2⟩:=aon rs e2
     cases r.str_inv
     rw [h1,h2];exact⟨rfl,rfl⟩
    ·cases h
   ·cases h
theorem al8: ∀ss:List Str,acp (ss.map D.str)=some ss
 |[]=> rfl
 |s::r=> by rw [aP,acp,al8 r]
noncomputable def aee:List D -> Option (List Bool)
 |[]=> some []
 |.bl x::r=> match aee r with
  |some xs=> some (x::xs)
  |none=> none
 |_=> none
theorem av1: ∀{xs:List V} {ds:List D} {bs:List Bool},RDs K as H xs ds -> aee ds=some bs -> xs=bs.map V.bl
 |_,[],ss,r,h=> by cases r;cases h;rfl
 | _,d::ds,ss,r,h=> by
  cases r with
  | cons r rs=>
   unfold aee at h
   split at h
   ·rename_i e;cases e
   ·rename_i x rr e
    cases e
    split at h
    ·rename_i ys e2
     cases h
     have h1:=av1 rs e2
     cases r.bl_inv
     rw [h1];rfl
    ·cases h
   ·cases h
def aff(ds:List D)(s:S):R D:=match ds with
 |[d]=> match (toL s d).bind aee with
  |some bs=>.ok (.bl (bs.all id)) s
  |none=>.bad
 |_=>.bad
theorem a80(hc:X.calm=true):CB X (.builtin "all") aff:=ab5 fun pins sh σ H as s xs ds us Q I rl rs ru h=> by
 unfold aff at h
 split at h
 ·obtain⟨v,rfl,rv⟩:=rs.one
  split at h
  ·rename_i bs e
   cases e2:toL s _ with
   |none=> rw [e2]at e;cases e
   |some ys=>
    rw [e2]at e
    obtain⟨p,zs,rfl,hx,rz⟩:=aba rl rv e2
    have ez:=av1 rz (show aee ys=some bs from e)
    subst ez
    exact auj hc pins sh σ H _ us Q I ru ⟨p,bs,rfl,SqL.of hx,Dn.now (Q:=Q) h rl (.da (.bl _))⟩
  ·exact h.elim
 ·exact h.elim
end PF
namespace PF
open PySem PySem.Spec
open L2
variable[XW]
theorem u64(hr:Room k A):A.units+64 < cLine:=by have:=hr.un;lia
theorem u65(hr:Room k A):A.units+65 < cLine:=by have:=hr.un;lia
theorem an9{as:As}{H:Hp}: ∀ss:List Str,TDs as H (ss.map V.str) (ss.map aF)
 |[]=>.nil
 |s::r=>.cons (.str s) (an9 r)
theorem aqc{x:Str}(ss:List Str)(c:ar8 X.K X.mg x vs)(e:vs=ss.map V.str:=by rfl)(hg:Gl X x:=by rfl)(hd:(x==("__debug__":Str))=false:=by decide):RE X (.Name x pos) (fC (.con (ss.map aF))):=by
 obtain⟨a,hm,hs⟩:=c
 subst e
 exact aj6 (v:=.ref a) (fun as H=>.con hs (an9 ss)) hm rfl hg hd
section
variable{P:aT}{w:aX}{K:am}{mg:Str -> Option af}{base:Heap}{x:Str}{st:Stmt}{N ps:List Str}{k n:Nat}
noncomputable def afr:FF:=fun _ _=>.bad
theorem ab1(h:Has K mg x st ps)(S:FnScope N ps (je st))(hn:ps.length=n):CalF P w K mg base x (k+1) n afr:=by
 refine⟨h.calX S (fun vs H Q E h=> by rw [hn];exact h.1) fun f cdv A outer s H vs Q E hr h=> ?_⟩
 obtain⟨hv,as,ds,s',rl,rs,h⟩:=h
 exact h.elim
end
end PF
namespace PF
open PySem PySem.Spec
open L2
def R.Wk{α β:Type}(f:α -> S -> R β)(Q:β -> S -> Prop)(a:α)(s:S):Prop:=(f a s).W Q
theorem R.W_bindk{α β:Type}(r:R α)(f:α -> S -> R β)(Q:β -> S -> Prop):(r.bind f).W Q=r.W (R.Wk f Q):=R.W_bind r f Q
@[simp] theorem R.Wk_app{α β:Type}(f:α -> S -> R β)(Q:β -> S -> Prop)(a:α)(s:S):R.Wk f Q a s=(f a s).W Q:=(rfl)
section
variable{s:S}{m:Bool}{n:Nat}{i j:Int}{x y:Str}{b:Bool}{xs ys:List ag}{ds es:List D}{d e:D}{ρ:En}{Q:D -> S -> Prop}
theorem kz:sizeLine=16777216:=sizeLine_eq
@[simp] theorem a9r:jo m (.int i) (.int j) s=.ok (.int (i+j)) s:=(rfl)
@[simp] theorem a8o:jo m (.bl b) (.int j) s=.ok (.int (b01 b+j)) s:=(rfl)
theorem ahe(h:x.length+y.length <=16777216):jo m (.str x) (.str y) s=.ok (.str (x++y)) s:=if_pos (by rw [kz];exact h)
theorem zx(h:xs.length+ys.length <=16777216):jo m (.tup xs) (.tup ys) s=.ok (.tup (xs++ys)) s:=if_pos (by rw [kz];exact h)
theorem aau(h:xs.length+ys.length <=16777216):jo false (.lst xs) (.lst ys) s=.ok (.lst (xs++ys)) s:=by
 show (if (xs.map D.da).length+(ys.map D.da).length <=sizeLine then vw false (xs.map D.da++ys.map D.da) s else .bad)=_
 rw [if_pos (by rw [kz,ao,ao];exact h),←lj]
 show (match kq _ with|some xs=> R.ok (D.lst xs) s|none=>.bad)=_
 rw [qw]
@[simp] theorem a8s:PF.y3 (.int i) (.int j) s=.ok (.int (i - j)) s:=(rfl)
@[simp] theorem a8n:PF.y3 (.bl b) (.int j) s=.ok (.int (b01 b - j)) s:=(rfl)
@[simp] theorem a7k:PF.y3 (.int i) (.bl b) s=.ok (.int (i - b01 b)) s:=(rfl)
theorem acl(h:(-(2^64) < i/\i < 2^64)\/(-(2^64) < j/\j < 2^64)):aav (.int i) (.int j) s=.ok (.int (i*j)) s:=if_pos h
theorem zl(h:0 < j)(h2:j < 1073741824):af7 (.int i) (.int j) s=.ok (.int (i/j)) s:=if_pos ⟨h,h2⟩
theorem xt(h:0 < j):aam (.int i) (.int j) s=.ok (.int (i % j)) s:=if_pos h
theorem axb(h:0 <=j)(h1:j <=1000000)(h2:i.natAbs < 2^64):aqu (.int i) (.int j) s=.ok (.int (i^j.toNat)) s:=if_pos ⟨h,h1,h2⟩
@[simp] theorem bap:gLt (.int i) (.int j) s=.ok (.bl (decide (i < j))) s:=(rfl)
@[simp] theorem ban:gLe (.int i) (.int j) s=.ok (.bl (decide (i <=j))) s:=(rfl)
@[simp] theorem bae:gGt (.int i) (.int j) s=.ok (.bl (decide (j < i))) s:=(rfl)
@[simp] theorem baq:gGe (.int i) (.int j) s=.ok (.bl (decide (j <=i))) s:=(rfl)
@[simp] theorem baz:gIs d .non s=.ok (.bl (isN d)) s:=(rfl)
@[simp] theorem a7x:adp d .non s=.ok (.bl (!isN d)) s:=(rfl)
theorem amk(x y:Str):aM (.str x) (.str y)=decide (x=y):=by
 show (x==y)=_
 (rw [aW,beq_iff_eq,decide_eq_true_eq])
theorem ac8{p q:ag}(h1:okD p=true)(h2:okD q=true):gEq (.da p) (.da q) s=.ok (.bl (aM p q)) s:=by
 have e:aqs (.da p) (.da q) s=.ok (.bl (aM p q)) s:=if_pos ⟨h1,h2⟩
 cases p <;> cases q <;> first|exact e|(rw [amk];rfl)
theorem azx:gEq (.str x) (.str y) s=.ok (.bl (decide (x=y))) s:=(rfl)
theorem a6s:gNe (.str x) (.str y) s=.ok (.bl (!decide (x=y))) s:=(rfl)
theorem acj{p q:ag}(h1:okD p=true)(h2:okD q=true):gNe (.da p) (.da q) s=.ok (.bl (!PyData.eqv p q)) s:=by
 have e:aqq (.da p) (.da q) s=.ok (.bl (!PyData.eqv p q)) s:=if_pos ⟨h1,h2⟩
 cases p <;> cases q <;> first|exact e|(rw [amk];rfl)
theorem ap0(h:s[n]?=some (.lst ds))(h2:ds[k]?=some d):gIx (.ref n) (.int (k:Int)) s=.ok d s:=by
 show (match (match s[n]? with|some (O.lst ds)=> some ds|_=> none) with|some ds=> (match atI ds (k:Int) with|some d=> R.ok d s|none=>.bad)|none=>.bad)=_
 rw [h]
 show (match atI ds (k:Int) with|some d=> R.ok d s|none=>.bad)=_
 rw [agp h2]
theorem vc{p:ag}(h2:xs[k]?=some p):gIx (.tup xs) (.int (k:Int)) s=.ok (.da p) s:=by
 show (match atI (xs.map D.da) (k:Int) with|some d=> R.ok d s|none=>.bad)=_
 rw [agp (v:=D.da p) (by rw [aL,h2];rfl)]
theorem agh{p:ag}(h2:xs[k]?=some p):gIx (.lst xs) (.int (k:Int)) s=.ok (.da p) s:=by
 show (match atI (xs.map D.da) (k:Int) with|some d=> R.ok d s|none=>.bad)=_
 rw [agp (v:=D.da p) (by rw [aL,h2];rfl)]
theorem am1(h:s[n]?=some (.lst ds))(h2:k < ds.length):abt (.ref n) (.int (k:Int)) d s=.ok .non (s.set n (.lst (ds.set k d))):=by
 show (match s[n]? with|some (O.lst xs)=> (match ixN xs.length (k:Int) with|some j=> R.ok D.non (s.set n (.lst (xs.set j d)))|none=>.bad)|_=>.bad)=_
 rw [h]
 have:ixN ds.length (k:Int)=some k:=by
  unfold ixN
  rw [if_pos (by lia),if_pos (by lia)]
  rfl
 show (match ixN ds.length (k:Int) with|some j=> R.ok D.non (s.set n (.lst (ds.set j d)))|none=>.bad)=_
 rw [this]
def a3k(g:D -> D -> S -> R D)(fb:FE)(ρ:En)(x:D)(s:S):R D:=(fb ρ s).bind fun y s2=> g x y s2
noncomputable def ayt(g:D -> D -> S -> R D)(x y:D)(s:S):R D:=g x y s
@[simp] theorem be1{g:D -> D -> S -> R D}{fb:FE}:fOp g fa fb ρ s=(fa ρ s).bind (a3k g fb ρ):=(rfl)
@[simp] theorem bda{g:D -> D -> S -> R D}{fb:FE}:a3k g fb ρ d s=(fb ρ s).bind (ayt g d):=(rfl)
@[simp] theorem bcv{g:D -> D -> S -> R D}:ayt g d e s=g d e s:=(rfl)
@[simp] theorem e_c:fC d ρ s=.ok d s:=(rfl)
@[simp] theorem bbz{r:En}:jb 0 (some d::r) s=.ok d s:=(rfl)
@[simp] theorem bc9{r:En}:jb 1 (x0::some d::r) s=.ok d s:=(rfl)
@[simp] theorem bca{r:En}:jb 2 (x0::x1::some d::r) s=.ok d s:=(rfl)
@[simp] theorem bbq{r:En}:jb 3 (x0::x1::x2::some d::r) s=.ok d s:=(rfl)
@[simp] theorem bcf{r:En}{x3:Option D}:jb 4 (x0::x1::x2::x3::some d::r) s=.ok d s:=(rfl)
@[simp] theorem bc4{r:En}{x3 x4:Option D}:jb 5 (x0::x1::x2::x3::x4::some d::r) s=.ok d s:=(rfl)
@[simp] theorem bc8{r:En}{x3 x4 x5:Option D}:jb 6 (x0::x1::x2::x3::x4::x5::some d::r) s=.ok d s:=(rfl)
@[simp] theorem bbc{r:En}{x3 x4 x5 x6:Option D}:jb 7 (x0::x1::x2::x3::x4::x5::x6::some d::r) s=.ok d s:=(rfl)
noncomputable def asd(g:FS)(fl:Fl)(s:S):R Fl:=match fl with
 |.nx ρ1=> g ρ1 s
 |fl=>.ok fl s
@[simp] theorem az1{f g:FS}:jf f g ρ s=(f ρ s).bind (asd g):=(rfl)
@[simp] theorem bbh{g:FS}:asd g (.nx ρ) s=g ρ s:=(rfl)
@[simp] theorem bc5{g:FS}:asd g (.rt d) s=.ok (.rt d) s:=(rfl)
noncomputable def a3h(d:D)(s:S):R Fl:=.ok (.rt d) s
@[simp] theorem bdi:jh f ρ s=(f ρ s).bind a3h:=(rfl)
@[simp] theorem bcd:a3h d s=.ok (.rt d) s:=(rfl)
@[simp] theorem bbg:jl ρ s=.ok (.nx ρ) s:=(rfl)
noncomputable def asg(ρ:En)(_:D)(s:S):R Fl:=.ok (.nx ρ) s
@[simp] theorem bcp:xa f ρ s=(f ρ s).bind (asg ρ):=(rfl)
@[simp] theorem baj:asg ρ d s=.ok (.nx ρ) s:=(rfl)
noncomputable def ae7(i:Nat)(ρ:En)(d:D)(s:S):R Fl:=.ok (.nx (ρ.set i (some d))) s
@[simp] theorem azh{i:Nat}:jw i f ρ s=(f ρ s).bind (ae7 i ρ):=(rfl)
@[simp] theorem bc6{i:Nat}:ae7 i ρ d s=.ok (.nx (ρ.set i (some d))) s:=(rfl)
noncomputable def ayf(f g:FS)(ρ:En)(k:Bool)(s:S):R Fl:=if k=true then f ρ s else g ρ s
@[simp] theorem bdo{c:FT}{f g:FS}:jp c f g ρ s=(c ρ s).bind (ayf f g ρ):=(rfl)
@[simp] theorem azo{f g:FS}:ayf f g ρ true s=f ρ s:=(rfl)
@[simp] theorem bd5{f g:FS}:ayf f g ρ false s=g ρ s:=(rfl)
noncomputable def kIf(f g:FE)(ρ:En)(k:Bool)(s:S):R D:=if k=true then f ρ s else g ρ s
@[simp] theorem bdy{c:FT}{g:FE}:fIf c f g ρ s=(c ρ s).bind (kIf f g ρ):=(rfl)
@[simp] theorem bci{g:FE}:kIf f g ρ true s=f ρ s:=(rfl)
@[simp] theorem bbf{g:FE}:kIf f g ρ false s=g ρ s:=(rfl)
noncomputable def az6(d:D)(s:S):R Bool:=match d with
 |.bl k=>.ok k s
 |_=>.bad
@[simp] theorem bbd:ji f ρ s=(f ρ s).bind az6:=(rfl)
@[simp] theorem aow:az6 (.bl b) s=.ok b s:=(rfl)
noncomputable def arv(g:FT)(ρ:En)(c:Bool)(s:S):R Bool:=if c=true then g ρ s else .ok false s
noncomputable def awe(g:FT)(ρ:En)(c:Bool)(s:S):R Bool:=if c=true then .ok true s else g ρ s
noncomputable def az5(c:Bool)(s:S):R Bool:=.ok (!c) s
@[simp] theorem bbo{f g:FT}:qf f g ρ s=(f ρ s).bind (arv g ρ):=(rfl)
@[simp] theorem bcy{f g:FT}:qz f g ρ s=(f ρ s).bind (awe g ρ):=(rfl)
@[simp] theorem bc1{f:FT}:jv f ρ s=(f ρ s).bind az5:=(rfl)
@[simp] theorem bah{g:FT}:arv g ρ true s=g ρ s:=(rfl)
@[simp] theorem bag{g:FT}:arv g ρ false s=.ok false s:=(rfl)
@[simp] theorem bbu{g:FT}:awe g ρ true s=.ok true s:=(rfl)
@[simp] theorem bbj{g:FT}:awe g ρ false s=g ρ s:=(rfl)
@[simp] theorem bak:az5 b s=.ok (!b) s:=(rfl)
noncomputable def avm(g:FE)(ρ:En)(d:D)(s:S):R D:=match d with
 |.bl true=> g ρ s
 |.bl false=>.ok (.bl false) s
 |_=>.bad
noncomputable def kOr(g:FE)(ρ:En)(d:D)(s:S):R D:=match d with
 |.bl false=> g ρ s
 |.bl true=>.ok (.bl true) s
 |_=>.bad
@[simp] theorem bd0{g:FE}:xh f g ρ s=(f ρ s).bind (avm g ρ):=(rfl)
@[simp] theorem bdr{g:FE}:fOr f g ρ s=(f ρ s).bind (kOr g ρ):=(rfl)
@[simp] theorem bco{g:FE}:avm g ρ (.bl true) s=g ρ s:=(rfl)
@[simp] theorem bbb{g:FE}:avm g ρ (.bl false) s=.ok (.bl false) s:=(rfl)
@[simp] theorem bdj{g:FE}:kOr g ρ (.bl true) s=.ok (.bl true) s:=(rfl)
@[simp] theorem bdb{g:FE}:kOr g ρ (.bl false) s=g ρ s:=(rfl)
def apz(g g':D -> D -> S -> R D)(fb fc:FE)(ρ:En)(x:D)(s:S):R D:=(fb ρ s).bind fun y s2=> (g x y s2).bind fun z s3=> match z with
 |.bl true=> (fc ρ s3).bind fun w s4=> g' y w s4
 |.bl false=>.ok (.bl false) s3
 |_=>.bad
def apr(g g':D -> D -> S -> R D)(fc:FE)(ρ:En)(x y:D)(s:S):R D:=(g x y s).bind fun z s3=> match z with
 |.bl true=> (fc ρ s3).bind fun w s4=> g' y w s4
 |.bl false=>.ok (.bl false) s3
 |_=>.bad
def ajd(g':D -> D -> S -> R D)(fc:FE)(ρ:En)(y z:D)(s:S):R D:=match z with
 |.bl true=> (fc ρ s).bind fun w s4=> g' y w s4
 |.bl false=>.ok (.bl false) s
 |_=>.bad
@[simp] theorem bai{g g':D -> D -> S -> R D}{fb fc:FE}:v0 g g' fa fb fc ρ s=(fa ρ s).bind (apz g g' fb fc ρ):=(rfl)
@[simp] theorem a92{g g':D -> D -> S -> R D}{fb fc:FE}:apz g g' fb fc ρ d s=(fb ρ s).bind (apr g g' fc ρ d):=(rfl)
@[simp] theorem a9j{g g':D -> D -> S -> R D}{fc:FE}:apr g g' fc ρ d e s=(g d e s).bind (ajd g' fc ρ e):=(rfl)
@[simp] theorem a8w{g':D -> D -> S -> R D}{fc:FE}:ajd g' fc ρ e (.bl true) s=(fc ρ s).bind (ayt g' e):=(rfl)
@[simp] theorem a9c{g':D -> D -> S -> R D}{fc:FE}:ajd g' fc ρ e (.bl false) s=.ok (.bl false) s:=(rfl)
def av2(g:FA)(ρ:En)(x:D)(s:S):R (List D):=(g ρ s).bind fun xs s2=>.ok (x::xs) s2
noncomputable def anh(x:D)(xs:List D)(s:S):R (List D):=.ok (x::xs) s
@[simp] theorem bcs:jc ρ s=.ok [] s:=(rfl)
@[simp] theorem be3:fVs ds ρ s=.ok ds s:=(rfl)
@[simp] theorem bby{g:FA}:ja f g ρ s=(f ρ s).bind (av2 g ρ):=(rfl)
@[simp] theorem bam{g:FA}:av2 g ρ d s=(g ρ s).bind (anh d):=(rfl)
@[simp] theorem ajt:anh d ds s=.ok (d::ds) s:=(rfl)
def aea(ds:List D)(s:S):R D:=if ds.length <=sizeLine then ahf ds s else .bad
def aao(m:Bool)(ds:List D)(s:S):R D:=if ds.length <=sizeLine then vw m ds s else .bad
@[simp] theorem bdp{f:FA}:jj f ρ s=(f ρ s).bind aea:=(rfl)
@[simp] theorem bd6{f:FA}:kv m f ρ s=(f ρ s).bind (aao m):=(rfl)
theorem a1s(h:kq ds=some xs)(hl:ds.length <=16777216):aea ds s=.ok (.tup xs) s:=by
 unfold aea ahf
 rw [if_pos (by rw [kz];exact hl),h]
theorem a2u(h:kq ds=some xs)(hl:ds.length <=16777216):aao false ds s=.ok (.lst xs) s:=by
 unfold aao vw
 rw [if_pos (by rw [kz];exact hl),if_neg aq,h]
@[simp] theorem bdw:aea [] s=.ok (.tup []) s:=(rfl)
@[simp] theorem be8:aao false [] s=.ok (.lst []) s:=(rfl)
@[simp] theorem bd9:aao true [] s=.ok (.ref s.length) (s++ [.lst []]):=(rfl)
@[simp] theorem bdv:aea [.da a] s=.ok (.tup [a]) s:=(rfl)
@[simp] theorem be6{b:ag}:aea [.da a,.da b] s=.ok (.tup [a,b]) s:=(rfl)
@[simp] theorem be4{b c:ag}:aea [.da a,.da b,.da c] s=.ok (.tup [a,b,c]) s:=(rfl)
@[simp] theorem bdq{b c d:ag}:aea [.da a,.da b,.da c,.da d] s=.ok (.tup [a,b,c,d]) s:=(rfl)
@[simp] theorem bds:aao false [.da a] s=.ok (.lst [a]) s:=(rfl)
@[simp] theorem bdz{b c:ag}:aao false [.da a,.da b,.da c] s=.ok (.lst [a,b,c]) s:=(rfl)
@[simp] theorem bdx{b c d:ag}:aao false [.da a,.da b,.da c,.da d] s=.ok (.lst [a,b,c,d]) s:=(rfl)
def a3r(m:Bool)(lo hi:FO)(ρ:En)(d:D)(s:S):R D:=(lo ρ s).bind fun l s2=> (hi ρ s2).bind fun u s3=> gSl m d l u s3
def a4i(m:Bool)(hi:FO)(ρ:En)(d:D)(l:Option Int)(s:S):R D:=(hi ρ s).bind fun u s3=> gSl m d l u s3
def a3g(m:Bool)(d:D)(l u:Option Int)(s:S):R D:=gSl m d l u s
@[simp] theorem be7{lo hi:FO}:fSl m f lo hi ρ s=(f ρ s).bind (a3r m lo hi ρ):=(rfl)
@[simp] theorem bdc{lo hi:FO}:a3r m lo hi ρ d s=(lo ρ s).bind (a4i m hi ρ d):=(rfl)
@[simp] theorem bdm{hi:FO}{l:Option Int}:a4i m hi ρ d l s=(hi ρ s).bind (a3g m d l):=(rfl)
@[simp] theorem bde{l u:Option Int}:a3g m d l u s=gSl m d l u s:=(rfl)
@[simp] theorem be5:fNo ρ s=.ok none s:=(rfl)
noncomputable def az8(d:D)(s:S):R (Option Int):=match d with
 |.int i=>.ok (some i) s
 |_=>.bad
@[simp] theorem bbk:kh f ρ s=(f ρ s).bind az8:=(rfl)
@[simp] theorem bb2:az8 (.int i) s=.ok (some i) s:=(rfl)
def azv(fs:FE)(ρ:En)(d:D)(s:S):R D:=(fs ρ s).bind fun k s2=> match d,k with
 |.tup ds,.int (-1)=>.ok (.tup ds.reverse) s2
 |_,_=>.bad
noncomputable def azd(d k:D)(s:S):R D:=match d,k with
 |.tup ds,.int (-1)=>.ok (.tup ds.reverse) s
 |_,_=>.bad
@[simp] theorem bd7{g:FE}:awi f g ρ s=(f ρ s).bind (azv g ρ):=(rfl)
@[simp] theorem bc3{g:FE}:azv g ρ d s=(g ρ s).bind (azd d):=(rfl)
@[simp] theorem bce:azd (.tup xs) (.int (-1)) s=.ok (.tup xs.reverse) s:=(rfl)
noncomputable def a3a(d:D)(s:S):R D:=match d with
 |.int i=>.ok (.int (-i)) s
 |_=>.bad
@[simp] theorem bd8:amb f ρ s=(f ρ s).bind a3a:=(rfl)
@[simp] theorem bbt:a3a (.int i) s=.ok (.int (-i)) s:=(rfl)
@[simp] theorem bct:j2 f ρ s=(f ρ s).bind ard:=(rfl)
@[simp] theorem bbr:ard (.bl b) s=.ok b s:=(rfl)
@[simp] theorem be2{g:FF}{f:FA}:fCB g f ρ s=(f ρ s).bind g:=(rfl)
def aiq(n:Nat)(F:FF)(ρ:En)(ds:List D)(s:S):R D:=if ds.length=n then (F ds s).at ρ else .bad
@[simp] theorem bbs{F:FF}{f:FA}:jd n F f ρ s=(f ρ s).bind (aiq n F ρ):=(rfl)
@[simp] theorem bb4{F:FF}:aiq 1 F ρ [d] s=(F [d] s).at ρ:=(rfl)
@[simp] theorem bac{F:FF}:aiq 2 F ρ [d,e] s=(F [d,e] s).at ρ:=(rfl)
@[simp] theorem bao{F:FF}{d3:D}:aiq 3 F ρ [d,e,d3] s=(F [d,e,d3] s).at ρ:=(rfl)
@[simp] theorem ba9{F:FF}{d3 d4:D}:aiq 4 F ρ [d,e,d3,d4] s=(F [d,e,d3,d4] s).at ρ:=(rfl)
@[simp] theorem a17:jr [.tup xs] s=.ok (.int xs.length) s:=by show R.ok (D.int (xs.map D.da).length) s=_;rw [ao]
@[simp] theorem bau:jr [.lst xs] s=.ok (.int xs.length) s:=by show R.ok (D.int (xs.map D.da).length) s=_;rw [ao]
theorem len_str(h:x.length <=16777216):jr [.str x] s=.ok (.int x.length) s:=if_pos (by rw [kz];exact h)
theorem aq1(h:s[n]?=some (.lst ds)):jr [.ref n] s=.ok (.int ds.length) s:=by
 show (match (match s[n]? with|some (O.lst ds)=> some ds|_=> none) with|some xs=> R.ok (D.int xs.length) s|none=>.bad)=_
 rw [h]
@[simp] theorem bay:afd [.int i,.int j] s=.ok (.int (if j < i then j else i)) s:=(rfl)
@[simp] theorem a95:aae false [.tup xs] s=.ok (.lst xs) s:=by
 show (match kq (xs.map D.da) with|some xs=> R.ok (D.lst xs) s|none=>.bad)=_
 rw [qw]
@[simp] theorem a9x:aae false [.lst xs] s=.ok (.lst xs) s:=by
 show (match kq (xs.map D.da) with|some xs=> R.ok (D.lst xs) s|none=>.bad)=_
 rw [qw]
@[simp] theorem a8p:aae true [.lst xs] s=.ok (.ref s.length) (s++ [.lst (xs.map D.da)]):=(rfl)
@[simp] theorem a8m:qp [.lst xs] s=.ok (.tup xs) s:=by
 show (match kq (xs.map D.da) with|some xs=> R.ok (D.tup xs) s|none=>.bad)=_
 rw [qw]
@[simp] theorem bas{p:ag}:ku [.da p,.ty "tuple"] s=.ok (.bl (kj p "tuple")) s:=(rfl)
@[simp] theorem bar{p:ag}:ku [.da p,.ty "int"] s=.ok (.bl (kj p "int")) s:=(rfl)
@[simp] theorem bax{p:ag}:ku [.da p,.ty "str"] s=.ok (.bl (kj p "str")) s:=(rfl)
@[simp] theorem aux{lo hi:Option Int}:gSl m (.tup xs) lo hi s=.ok (.tup (qh xs lo hi)) s:=(rfl)
theorem zp{α β:Type}(f:α -> β)(l:List α)(lo hi:Option Int):qh (l.map f) lo hi=(qh l lo hi).map f:=by
 unfold qh
 rw [ao,mw,List.map_drop]
@[simp] theorem bcq{lo hi:Option Int}:gSl false (.lst xs) lo hi s=.ok (.lst (qh xs lo hi)) s:=by
 show (match kq (qh (xs.map D.da) lo hi) with|some xs=> R.ok (D.lst xs) s|none=>.bad)=_
 rw [zp,qw]
@[simp] theorem bcj{lo hi:Option Int}:gSl false (.frz xs) lo hi s=.ok (.lst (qh xs lo hi)) s:=by
 show (match kq (qh (xs.map D.da) lo hi) with|some xs=> R.ok (D.lst xs) s|none=>.bad)=_
 rw [zp,qw]
theorem aqe{lo hi:Option Int}(h:x.length <=16777216):gSl m (.str x) lo hi s=.ok (.str (af6 x lo hi)) s:=if_pos (by rw [kz];exact h)
noncomputable def jn(fl:Fl)(s:S):R D:=match fl with
 |.rt d=>.ok d s
 |.nx _=>.ok .non s
 |_=>.bad
@[simp] theorem bb0:jn (.rt d) s=.ok d s:=(rfl)
@[simp] theorem baw:jn (.nx ρ) s=.ok .non s:=(rfl)
def ap2(fo fi:FE)(ρ:En)(v:D)(s:S):R Fl:=(fo ρ s).bind fun o s2=> (fi ρ s2).bind fun i s3=> (abt o i v s3).bind fun _ s4=>.ok (.nx ρ) s4
def aox(fi:FE)(ρ:En)(v o:D)(s:S):R Fl:=(fi ρ s).bind fun i s3=> (abt o i v s3).bind fun _ s4=>.ok (.nx ρ) s4
def aop(ρ:En)(v o i:D)(s:S):R Fl:=(abt o i v s).bind fun _ s4=>.ok (.nx ρ) s4
@[simp] theorem baf{fv fi:FE}:abd fv fo fi ρ s=(fv ρ s).bind (ap2 fo fi ρ):=(rfl)
@[simp] theorem a9t{fi:FE}:ap2 fo fi ρ d s=(fo ρ s).bind (aox fi ρ d):=(rfl)
@[simp] theorem a8u{fi:FE}:aox fi ρ d e s=(fi ρ s).bind (aop ρ d e):=(rfl)
@[simp] theorem a9y{o:D}:aop ρ d e o s=(abt e o d s).bind (asg ρ):=(rfl)
def awm(g:GM)(fa:FA)(ρ:En)(d:D)(s:S):R D:=if (toL s d).isSome=true then (fa ρ s).bind fun ds s2=> g d ds s2 else .bad
noncomputable def a60(g:GM)(d:D)(ds:List D)(s:S):R D:=g d ds s
@[simp] theorem bdu{g:GM}{fa:FA}:fMt g fo fa ρ s=(fo ρ s).bind (awm g fa ρ):=(rfl)
theorem agm{g:GM}{fa:FA}(h:s[n]?=some (.lst ds)):awm g fa ρ (.ref n) s=(fa ρ s).bind (a60 g (.ref n)):=by
 unfold awm
 rw [if_pos]
 ·rfl
 ·show ((match s[n]? with|some (O.lst ds)=> some ds|_=> none):Option (List D)).isSome=true
  rw [h];rfl
@[simp] theorem bdn{g:GM}:a60 g d ds s=g d ds s:=(rfl)
theorem acy(h:s[n]?=some (.lst ds))(hl:ds.length < 16777216):vd (.ref n) [d] s=.ok .non (s.set n (.lst (ds++ [d]))):=by
 show (match s[n]? with|some (O.lst xs)=> (if xs.length < sizeLine then R.ok D.non (s.set n (.lst (xs++ [d]))) else .bad)|_=>.bad)=_
 rw [h]
 show (if ds.length < sizeLine then _ else _)=_
 rw [if_pos (by rw [kz];exact hl)]
theorem axv(h:s[n]?=some (.lst ds))(hk:ds[k]?=some d)(hl:ds.length <=16777216):abn (.ref n) [.int (k:Int)] s=.ok d (s.set n (.lst (ds.eraseIdx k))):=by
 have hlt:k < ds.length:=(aE.mp hk).1
 have e1:iS (k:Int) ds.length=some k:=by
  rw [PySem.StrLaws.seqIndex_nonneg (by lia) (by lia),dh]
 have b1: -(2^63) <=(k:Int)/\(k:Int) < 2^63:=by lia
 unfold abn onL
 simp only [h,e1,hk,b1,and_self,if_true]
def a6m(d:D)(s:S):R D:=avz d s
@[simp] theorem bcz:ayn f ρ s=(f ρ s).bind a6m:=(rfl)
theorem a2z(h:s[n]?=some (.lst ds))(h2:kq ds=some xs):a6m (.ref n) s=.ok (.lst xs) (s.set n .gone):=by
 show (match s[n]? with|some (O.lst ds)=> (match kq ds with|some xs=> R.ok (D.lst xs) (s.set n .gone)|none=>.bad)|_=>.bad)=_
 rw [h]
 show (match kq ds with|some xs=> R.ok (D.lst xs) (s.set n .gone)|none=>.bad)=_
 rw [h2]
def aw4(g:Tg)(ρ:En)(d:D)(s:S):R Fl:=match vy g d ρ with
 |some ρ1=>.ok (.nx ρ1) s
 |none=>.bad
@[simp] theorem bcu:ar0 g f ρ s=(f ρ s).bind (aw4 g ρ):=(rfl)
def kFor(g:Tg)(fb:FS)(ρ:En)(p:Wk)(s:S):R Fl:=chk p s (v6 g fb p p.1 ρ s)
@[simp] theorem bcw{fi:FI}:zq fi g fb ρ s=(fi ρ s).bind (kFor g fb ρ):=(rfl)
@[simp] theorem bba:kFor g fb ρ (ds,none) s=v6 g fb (ds,none) ds ρ s:=aan
@[simp] theorem bdt:fIt f ρ s=(f ρ s).bind alt:=(rfl)
@[simp] theorem bbn:alt (.lst xs) s=.ok (xs.map D.da,none) s:=(rfl)
@[simp] theorem bcg:alt (.tup xs) s=.ok (xs.map D.da,none) s:=(rfl)
@[simp] theorem bcx{f:FA}:ac5 f ρ s=(f ρ s).bind an2:=(rfl)
theorem ade(h: -(2^62) <=j)(h2:j < 2^62):an2 [.int j] s=.ok (yg 0 j.toNat,none) s:=if_pos ⟨h,h2⟩
def aif(g:Tg)(fb:FS)(p:Wk)(r:List D)(fl:Fl)(s:S):R Fl:=match fl with
 |.nx ρ2=> chk p s (v6 g fb p r ρ2 s)
 |.ct ρ2=> chk p s (v6 g fb p r ρ2 s)
 |.bk ρ2=>.ok (.nx ρ2) s
 |.rt d=>.ok (.rt d) s
theorem acx{p:Wk}(h:vy g d ρ=some ρ1):v6 g fb p (d::r) ρ s=(fb ρ1 s).bind (aif g fb p r):=by
 rw [v6,h];rfl
@[simp] theorem apd:aif g fb (ds,none) r (.nx ρ) s=v6 g fb (ds,none) r ρ s:=aan
@[simp] theorem a2w:aif g fb (ds,none) r (.ct ρ) s=v6 g fb (ds,none) r ρ s:=aan
@[simp] theorem a1j{p:Wk}:aif g fb p r (.bk ρ) s=.ok (.nx ρ) s:=(rfl)
@[simp] theorem a33{p:Wk}:aif g fb p r (.rt d) s=.ok (.rt d) s:=(rfl)
def kLc(m:Bool)(js:List Nat)(k:Nat)(g:Tg)(ft:FT)(fe:FE)(ρ:En)(p:Wk)(s:S):R D:=if p.1.length <=sizeLine then chk p s ((k9 g ft fe (aC k none++ajo ρ js) p p.1 s).bind fun ds s2=> vw m ds s2) else .bad
@[simp] theorem be0{fi:FI}:fLc m js k fi g ft fe ρ s=(fi ρ s).bind (kLc m js k g ft fe ρ):=(rfl)
def ar6(m:Bool)(ds:List D)(s:S):R D:=vw m ds s
theorem zh{ρ0:En}(h:ds.length <=16777216)(e:aC k none++ajo ρ js=ρ0):kLc m js k g ft fe ρ (ds,none) s=(k9 g ft fe ρ0 (ds,none) ds s).bind (ar6 m):=by
 subst e
 unfold kLc
 rw [if_pos (by rw [kz];exact h),aan];rfl
@[simp] theorem bc2:ar6 false (xs.map D.da) s=.ok (.lst xs) s:=by
 show (match kq _ with|some xs=> R.ok (D.lst xs) s|none=>.bad)=_
 rw [qw]
@[simp] theorem bb8:ar6 true ds s=.ok (.ref s.length) (s++ [.lst ds]):=(rfl)
@[simp] theorem awb{p:Wk}:k9 g ft fe ρ p [] s=.ok [] s:=(rfl)
def anf(g:Tg)(ft:FT)(fe:FE)(ρ0:En)(p:Wk)(r:List D)(ρ1:En)(b:Bool)(s2:S):R (List D):=if b=true then (fe ρ1 s2).calm.bind fun x s3=> chk p s3 ((k9 g ft fe ρ0 p r s3).bind fun xs s4=>.ok (x::xs) s4) else chk p s2 (k9 g ft fe ρ0 p r s2)
def au5(g:Tg)(ft:FT)(fe:FE)(ρ0:En)(p:Wk)(r:List D)(x:D)(s3:S):R (List D):=chk p s3 ((k9 g ft fe ρ0 p r s3).bind fun xs s4=>.ok (x::xs) s4)
theorem afe{p:Wk}(h:vy g d ρ=some ρ1):k9 g ft fe ρ p (d::r) s=(ft ρ1 s).calm.bind (anf g ft fe ρ p r ρ1):=by
 rw [k9,h];rfl
@[simp] theorem amf{p:Wk}:anf g ft fe ρ p r ρ1 true s=(fe ρ1 s).calm.bind (au5 g ft fe ρ p r):=(rfl)
@[simp] theorem an3:anf g ft fe ρ (ds,none) r ρ1 false s=k9 g ft fe ρ (ds,none) r s:=aan
@[simp] theorem aly:au5 g ft fe ρ (ds,none) r d s=(k9 g ft fe ρ (ds,none) r s).bind (anh d):=aan
@[simp] theorem bdl:acd ρ s=.ok true s:=(rfl)
theorem bdd:aao true [a0,a1] s=.ok (.ref s.length) (s++ [.lst [a0,a1]]):=(rfl)
theorem bdg{a2 a3:D}:aao true [a0,a1,a2,a3] s=.ok (.ref s.length) (s++ [.lst [a0,a1,a2,a3]]):=(rfl)
theorem bb1(h:xs.length <=16777216):aao false (xs.map D.da) s=.ok (.lst xs) s:=a2u (qw xs) (by rw [ao];exact h)
theorem bab(h:xs.length <=16777216):aea (xs.map D.da) s=.ok (.tup xs) s:=a1s (qw xs) (by rw [ao];exact h)
theorem it0{a0:ag}{r:List ag}:gIx (.tup (a0::r)) (.int 0) s=.ok (.da a0) s:=vc (k:=0) rfl
theorem it1{a0 a1:ag}{r:List ag}:gIx (.tup (a0::a1::r)) (.int 1) s=.ok (.da a1) s:=vc (k:=1) rfl
theorem it2{a0 a1 a2:ag}{r:List ag}:gIx (.tup (a0::a1::a2::r)) (.int 2) s=.ok (.da a2) s:=vc (k:=2) rfl
theorem it3{a0 a1 a2 a3:ag}{r:List ag}:gIx (.tup (a0::a1::a2::a3::r)) (.int 3) s=.ok (.da a3) s:=vc (k:=3) rfl
theorem azc{r:En}{y:Option D}:vy (.nm 0) d (y::r)=some (some d::r):=(rfl)
theorem bb5{r:En}{y:Option D}:ae7 1 (x0::y::r) d s=.ok (.nx (x0::some d::r)) s:=(rfl)
theorem bb6{r:En}{y:Option D}:ae7 2 (x0::x1::y::r) d s=.ok (.nx (x0::x1::some d::r)) s:=(rfl)
theorem bcn{r:En}{y:Option D}:ae7 3 (x0::x1::x2::y::r) d s=.ok (.nx (x0::x1::x2::some d::r)) s:=(rfl)
theorem bcc{r:En}{x3 y:Option D}:ae7 4 (x0::x1::x2::x3::y::r) d s=.ok (.nx (x0::x1::x2::x3::some d::r)) s:=(rfl)
theorem bch{r:En}{x3 x4 y:Option D}:ae7 5 (x0::x1::x2::x3::x4::y::r) d s=.ok (.nx (x0::x1::x2::x3::x4::some d::r)) s:=(rfl)
theorem bc0{r:En}{x3 x4 x5 y:Option D}:ae7 6 (x0::x1::x2::x3::x4::x5::y::r) d s=.ok (.nx (x0::x1::x2::x3::x4::x5::some d::r)) s:=(rfl)
theorem bck{r:En}{x3 x4 x5 x6 y:Option D}:ae7 7 (x0::x1::x2::x3::x4::x5::x6::y::r) d s=.ok (.nx (x0::x1::x2::x3::x4::x5::x6::some d::r)) s:=(rfl)
end
@[simp] theorem R.bind_ok'{α β:Type}(a:α)(s:S)(f:α -> S -> R β):(R.ok a s).bind f=f a s:=(rfl)
@[simp] theorem R.W_ok'{α:Type}(a:α)(s:S)(Q:α -> S -> Prop):(R.ok a s).W Q=Q a s:=(rfl)
def flW(J:En -> S -> Prop)(Q:Fl -> S -> Prop)(fl:Fl)(s:S):Prop:=match fl with
 |.nx ρ=> J ρ s
 |.ct ρ=> J ρ s
 |.bk ρ=> Q (.nx ρ) s
 |.rt d=> Q (.rt d) s
theorem zw{g:Tg}{fb:FS}{all:List D}{Q:Fl -> S -> Prop}(J:List D -> En -> S -> Prop)
  (step: ∀d r ρ s,J (d::r) ρ s -> ∃ρ1,vy g d ρ=some ρ1/\(fb ρ1 s).W (flW (J r) Q)) (fin: ∀ρ s,J [] ρ s -> Q (.nx ρ) s):
  ∀(ds:List D) (ρ:En) (s:S),J ds ρ s -> (v6 g fb (all,none) ds ρ s).W Q
 |[],ρ,s,h=> fin ρ s h
 |d::r,ρ,s,h=> by
  obtain⟨ρ1,e,w⟩:=step d r ρ s h
  rw [acx e,R.W_bind]
  refine R.W_mono w fun fl s1 q=> ?_
  cases fl with
  |nx ρ2=> rw [apd];exact zw J step fin r ρ2 s1 q
  |ct ρ2=> rw [a2w];exact zw J step fin r ρ2 s1 q
  |bk ρ2=> rw [a1j];exact q
  |rt d=> rw [a33];exact q
theorem ae5{g:Tg}{ft:FT}{fe:FE}{ρ0:En}{all:List D}{Q:List D -> S -> Prop}(J:List D -> List D -> S -> Prop)
  (step: ∀d r acc s,J (d::r) acc s -> ∃ρ1,vy g d ρ0=some ρ1/\(ft ρ1 s).W fun b s2=> if b=true then (fe ρ1 s2).W fun x s3=> J r (acc++ [x]) s3 else J r acc s2) (fin: ∀acc s,J [] acc s -> Q acc s):
  ∀(ds acc:List D) (s:S),J ds acc s -> (k9 g ft fe ρ0 (all,none) ds s).W fun xs s'=> Q (acc++xs) s'
 |[],acc,s,h=> by
  rw [awb,R.W_ok,cn]
  exact fin acc s h
 | d::r,acc,s,h=> by
  obtain⟨ρ1,e,w⟩:=step d r acc s h
  rw [afe e,R.W_bind,R.W_calm]
  refine R.W_mono w fun b s1 q=> ?_
  cases b with
  |false=>
   rw [an3]
   rw [if_neg aq]at q
   exact ae5 J step fin r acc s1 q
  |true=>
   rw [amf,R.W_bind,R.W_calm]
   rw [if_pos rfl]at q
   refine R.W_mono q fun x s2 q2=> ?_
   rw [aly,R.W_bind]
   refine R.W_mono (ae5 J step fin r (acc++ [x]) s2 q2) fun xs s3 q3=> ?_
   rw [ajt,R.W_ok]
   rw [cQ]at q3
   exact q3
structure Ext (s s':S):Prop where
 ex: ∃g,s'=s++g
theorem Ext.refl(s:S):Ext s s:=⟨[],by simp⟩
theorem Ext.add(s g:S):Ext s (s++g):=⟨g,rfl⟩
theorem Ext.len{s':S}(h:Ext s s'):s.length <=s'.length:=by obtain⟨g,rfl⟩:=h.ex;simp
theorem Ext.get{s':S}(h:Ext s s'){o:O}(e:s[k]?=some o):s'[k]?=some o:=by
 obtain⟨g,rfl⟩:=h.ex
 rw [bq (aE.mp e).1];exact e
theorem Ext.getE{s':S}(h:Ext s s')(e:k < s.length):s'[k]?=s[k]?:=by
 obtain⟨g,rfl⟩:=h.ex
 rw [bq e]
structure kc (n:Nat) (s s':S):Prop where
 len:s.length <=s'.length
 get: ∀k,k≠n -> k < s.length -> s'[k]?=s[k]?
theorem kc.refl(n:Nat)(s:S):kc n s s:=⟨au _,fun _ _ _=> rfl⟩
theorem kc.trans{a b c:S}(h1:kc n a b)(h2:kc n b c):kc n a c:=⟨aH h1.len h2.len,fun k hk hl=> (h2.get k hk (aU hl h1.len)).trans (h1.get k hk hl)⟩
theorem Ext.same{s':S}(h:Ext s s')(n:Nat):kc n s s':=⟨h.len,fun _ _ hl=> h.getE hl⟩
theorem aca{o:O}:kc n s (s.set n o):=⟨by simp,fun k hk hl=> a8 (cW hk)⟩
theorem kc.own{s':S}{o:O}(h:kc n s s')(hk:s.length <=k):kc n s (s'.set k o):=⟨by simpa using h.len,fun j hj hl=> by rw [a8 (by lia)];exact h.get j hj hl⟩
theorem axs{α:Type}{s:List α}{o:α}(e:s[n]?=some o):s.set n o=s:=by
 apply dF
 intro i
 by_cases z:n=i
 ·subst z
  have hl:=(aE.mp e).1
  rw [bN hl,e]
 ·rw [a8 z]
end PF
namespace PF
open PySem PySem.Spec
open L2
open PyProof.Rows (envOfC)
section
variable{P:aT}{w:aX}{K:am}{mg:Str -> Option af}{base:Heap}{x:Str}{st:Stmt}{N ps:List Str}{k:Nat}
theorem fnF{f:Addr}(F:Fun K x x st f fd)(S:FnScope N ps (je st)){m:Nat}(hm:N.length=m)(hn:ps.length=n)(hbody:BodyOk P w K mg base N x st k fb):FnOk P w K mg base (CX1 P w) (k+1) f fd ps (spF K n (jx m fb)):=
 F.okX S (fun vs H Q E h=> by rw [hn];exact h.1) fun cdv A outer s H vs Q E hr h=> ak6 hm hbody f cdv A outer s H vs Q E hr h
theorem a3v{f:Addr}{F:FF}(h:FnOk P w K mg base (CX1 P w) k f fd ps (spF K 1 F))(ht: ∀ns:List Int,ns.length <=63 -> (F [.frz (ns.map aD)] []).W fun d _=> d=.bl true):FnOk P w K mg base CX0 k f fd ps (aid K):=by
 have sp: ∀vs H Q E,aid K vs H Q E -> spF K 1 F vs H Q fun _ _ _=> False:=fun vs H Q E q=> by
  obtain⟨a,ns,rfl,hS,hl,hq⟩:=q
  have R0:Rel K ⟨[],[]⟩ H []:=⟨rfl,fun i j p e=> by simp at e,fun n p o e=> by simp at e,fun n o e=> by simp at e,fun p hp=> by simp at hp,fun p hp=> by simp at hp⟩
  refine⟨rfl,⟨[],[]⟩,[.frz (ns.map aD)],[],R0,.cons (.frz (fun as' H' st=> ?_) (TDs.ints ns)) .nil,?_⟩
  ·exact L2.kc.seq (fun b o hb=> st.keep b o (by simp [As.has]) hb) hS
  ·have t:=ht ns hl
   cases hr:F [.frz (ns.map aD)] []with
   |ok d s=>
    rw [hr]at t
    intro b as' H' st rl rb
    have:d=.bl true:=t
    subst this
    cases rb with
    |da z=> cases z;exact hq _
   |bad=> rw [hr]at t;exact t
   |ex n ρ s=> rw [hr]at t;exact t.elim
 refine⟨fun vs H Q E q=> h.len vs H Q _ (sp vs H Q E q),fun A outer s H args us vs Q E hr he hb hv hs=> dU (h.run A outer s H args us vs Q _ hr he hb hv (sp vs H Q E hs)) fun r s' hq=> ?_⟩
 cases r with
 |error e=> obtain⟨_,_,_,_,_,_,_,_,_,_,_,_,_,_,_,f⟩:=hq;exact f.elim
 |ok fl=> cases fl <;> exact hq
end
end PF
namespace PF
open PySem PySem.Spec
variable[XW]
open L2
variable[XW]
theorem abz{x:Str}(c: ∃t,X.mg x=some (.int i t))(hg:Gl X x:=by rfl)(hd:(x==("__debug__":Str))=false:=by decide):RE X (.Name x pos) (fC (.da (.int i))):=by
 obtain⟨t,hm⟩:=c
 exact aj6 (v:=.int i) (fun as H=>.da (.int i)) hm ⟨_,rfl⟩ hg hd
theorem a1g{x z:Str}(c: ∃t,X.mg x=some (.str z t))(hg:Gl X x:=by rfl)(hd:(x==("__debug__":Str))=false:=by decide):RE X (.Name x pos) (fC (.da (.str z))):=by
 obtain⟨t,hm⟩:=c
 exact aj6 (v:=.str z) (fun as H=>.da (.str z)) hm ⟨_,rfl⟩ hg hd
end PF
namespace PF
open PySem PySem.Spec
open L2
open PyProof.Rows (is_bool isnot_bool)
variable[XW]
end PF
namespace PF
open PySem PySem.Spec
open PySem.SeqAt
open AutoSeq1 (wpAny_loadPart') --
open MeetsSeq MeetsSeq2 MeetsSeq3 SeqRoads2 --
def aj8(A:bj)(s:ak)(x y:af)(b:Bool):Prop:= ∀(prog:aT) (w:aX) (E:af -> ak -> Prop) (Q:af -> ak -> Prop),Q (.bool b) s -> wpAny (model prog w) A (nr .Lt x y) Q E s
inductive LexAt (A:bj) (s:ak) (fin:Bool):List (af×af) -> Bool -> Prop
 |nil:LexAt A s fin [] fin
 |same {x y:af} {r:List (af×af)} {b:Bool}:EqAt A s x y true -> LexAt A s fin r b -> LexAt A s fin ((x,y)::r) b
 |diff {x y:af} {r:List (af×af)} {b:Bool}:EqAt A s x y false -> aj8 A s x y b -> LexAt A s fin ((x,y)::r) b
theorem atd(l b:Addr)(us ws:Array af)(n n2:Nat)(dd dd2:Option Addr)(sl sl2:Array (Option af))(r:Bool):
  Meets (cJ.«tuple.__lt__» ⟨[.ref l,.ref b],[]⟩)
   (fun A R s=> s.heap.get? l=some {cls:=.type "tuple",dict:=dd,data:=.seq us n,slots:=sl}/\s.heap.get? b=some {cls:=.type "tuple",dict:=dd2,data:=.seq ws n2,slots:=sl2}/\
    LexAt A.in1 s (decide (us.size < ws.size)) (us.toList.zip ws.toList) r/\R (.ok (.ret (.bool r))) s):=
 .of_wp fun prog w A R s h=> by
  (obtain⟨hp,g,d,tk,os⟩:=s)
  obtain⟨hl,hb,lx,hR⟩:=h
  have sub:=AutoSeq1.sub_tuple_tuple
  wp_walk using ny hl,ny hb,jT _ (fun jt b s'=> b.1=none/\s'=⟨hp,g,d,tk,os⟩/\LexAt A.in1 ⟨hp,g,d,tk,os⟩ (decide (us.size < ws.size)) jt r) _
  case turn=>
   rintro⟨y,x⟩ jt b s' ⟨hb',rfl,lx⟩
   cases lx with
   |same e t=>
    refine ae (e prog w _ _ ?_)
    wp_walk
    exact⟨rfl,rfl,t⟩
   |diff e t=>
    refine ae (e prog w _ _ ?_)
    have t': ∀(E:af -> ak -> Prop) (Q:af -> ak -> Prop),Q (.bool r) ⟨hp,g,d,tk,os⟩ -> wpAny (model prog w) A.in1 (nr .Lt y x) Q E ⟨hp,g,d,tk,os⟩:=fun E Q=> t prog w E Q
    generalize nr .Lt y x=m at t'⊢
    wp_walk
    refine t' _ _ ?_
    wp_walk
    exact⟨_,rfl,hR⟩
  case fin=>
   rintro⟨b1,b2⟩ s' ⟨hb',rfl,lx⟩
   simp only at hb'
   subst hb'
   cases lx
   wp_walk
   exact⟨_,rfl,by simpa [Builtin.Tuple.tupleCompareSizes] using hR⟩
  case h=> exact⟨rfl,rfl,lx⟩
section
variable{A:bj}{s:ak} --
theorem aj8.tuples{b:Addr}{us ws:Array af}{r:Bool}(hl:s.heap.IsTuple l us)(hb:s.heap.IsTuple b ws)(hu:A.units < cLine)(lx:LexAt A.in1 s (decide (us.size < ws.size)) (us.toList.zip ws.toList) r):aj8 A s (.ref l) (.ref b) r:=fun prog w E Q h=> by
 obtain⟨⟨c1,d1,e1,s1⟩,o1,k1,n1,q1⟩:=id hl
 obtain⟨⟨c2,d2,e2,s2⟩,o2,k2,n2,q2⟩:=id hb
 simp only at k1 q1 k2 q2
 subst k1 q1 k2 q2
 exact richCompare_meets_room (op:=.Lt) ⟨_,o1,rfl⟩ ⟨_,o2,rfl⟩ ll F.entry_tuple_lt (F.args_tuple_lt_2 _ _) (atd l b us ws n1 n2 d1 d2 s1 s2 r) ⟨o1,o2,lx,show fL r≠lZ/\Q (.bool r) s from ⟨nofun,h⟩⟩ hu
end
mutual
noncomputable def ltP:ag -> ag -> Option Bool
 |.int i,.int j=> some (decide (i < j))
 |.str a,.str b=> some (decide (a.cps.toList < b.cps.toList))
 |.tuple xs,.tuple ys=> vh xs ys
 |_,_=> none
noncomputable def vh:List ag -> List ag -> Option Bool
 |[],[]=> some false
 |[],_::_=> some true
 |_::_,[]=> some false
 |x::xs,y::ys=> if aM x y=true then vh xs ys else ltP x y
end
theorem yn:vh [] []=some false:=by simp only [vh]
theorem x8{y:ag}:vh [] (y::ys)=some true:=by simp only [vh]
theorem vg{y:ag}:vh (y::ys) []=some false:=by simp only [vh]
theorem ad0{x y:ag}:vh (x::xs) (y::ys)=if aM x y=true then vh xs ys else ltP x y:=by simp only [vh]
theorem z9:ltP (.int i) (.int j)=some (decide (i < j)):=by simp only [ltP]
theorem agj{a b:Str}:ltP (.str a) (.str b)=some (decide (a.cps.toList < b.cps.toList)):=by simp only [ltP]
theorem ab0:ltP (.tuple xs) (.tuple ys)=vh xs ys:=by simp only [ltP]
end PF
namespace PF
open PySem PySem.Spec
open PySem.SeqAt
mutual
theorem abx: ∀(da db:ag) (A:bj) (s:ak) (a b:af) (as bs:List Addr) (r:Bool),dz s.heap a da as -> dz s.heap b db bs -> da.canLay0=true -> db.canLay0=true -> A.units+min da.depth db.depth < cLine -> ltP da db=some r -> aj8 A s a b r
 | .int i,db,A,s,_,_,_,_,r,ra,rb,_,_,_,h=> by
  cases db with
  |int j=>
   rw [z9]at h
   cases h
   cases ra;cases rb
   exact fun prog w E Q q=> PyProof.Rows.lt_int q
  |none=> simp [ltP]at h
  |bool _=> simp [ltP]at h
  |str _=> simp [ltP]at h
  |list _=> simp [ltP]at h
  |tuple _=> simp [ltP]at h
  |dict _=> simp [ltP]at h
 | .str x,db,A,s,_,_,_,_,r,ra,rb,_,_,_,h=> by
  cases db with
  |str j=>
   rw [agj]at h
   cases h
   cases ra;cases rb
   exact fun prog w E Q q=> PyProof.Rows.lt_str q
  |none=> simp [ltP]at h
  |bool _=> simp [ltP]at h
  |int _=> simp [ltP]at h
  |list _=> simp [ltP]at h
  |tuple _=> simp [ltP]at h
  |dict _=> simp [ltP]at h
 | .tuple xs,db,A,s,_,_,_,_,r,ra,rb,ha,hb,hu,h=> by
  cases db with
  | tuple ys=>
   rw [ab0]at h
   cases ra with
   | tuple h1 h2 h3 h4=>
    cases rb with
    |tuple k1 k2 k3 k4=>
     refine aj8.tuples ⟨_,h1,h2,_,h3⟩ ⟨_,k1,k2,_,k3⟩ (room_here hu) ?_
     have t:=ad8 xs ys A.in1 s _ _ _ _ r h4 k4 ha hb (room_in hu) h
     simpa using t
  |none=> simp [ltP]at h
  |bool _=> simp [ltP]at h
  |int _=> simp [ltP]at h
  |list _=> simp [ltP]at h
  |str _=> simp [ltP]at h
  |dict _=> simp [ltP]at h
 |.none,_,_,_,_,_,_,_,_,_,_,_,_,_,h=> by simp [ltP]at h
 |.bool _,_,_,_,_,_,_,_,_,_,_,_,_,_,h=> by simp [ltP]at h
 |.list _,_,_,_,_,_,_,_,_,_,_,_,_,_,h=> by simp [ltP]at h
 |.dict _,_,_,_,_,_,_,_,_,_,_,ha,_,_,_=> nomatch ha
theorem ad8: ∀(xs ys:List ag) (A:bj) (s:ak) (vs ws:List af) (as bs:List Addr) (r:Bool),cY s.heap vs xs as -> cY s.heap ws ys bs -> bh xs=true -> bh ys=true -> A.units+min (aN xs) (aN ys) < cLine -> vh xs ys=some r -> LexAt A s (decide (vs.length < ws.length)) (vs.zip ws) r
 |[],[],A,s,_,_,_,_,r,ra,rb,_,_,_,h=> by
  cases ra;cases rb
  rw [yn]at h
  cases h
  exact .nil
 |[],_::_,A,s,_,_,_,_,r,ra,rb,_,_,_,h=> by
  cases ra;cases rb
  rw [x8]at h
  cases h
  simpa using LexAt.nil (A:=A) (s:=s) (fin:=true)
 |_::_,[],A,s,_,_,_,_,r,ra,rb,_,_,_,h=> by
  cases ra;cases rb
  rw [vg]at h
  cases h
  simpa using LexAt.nil (A:=A) (s:=s) (fin:=false)
 | x ::xs,y::ys,A,s,_,_,_,_,r,ra,rb,ha,hb,hu,h=> by
  have ha':x.canLay0=true/\bh xs=true:=by simpa [bh] using ha
  have hb':y.canLay0=true/\bh ys=true:=by simpa [bh] using hb
  rw [ad0]at h
  cases ra with
  | cons r1 rs=>
   cases rb with
   | cons r2 rs2=>
    have e:=eqAt_reads x y A s _ _ _ _ r1 r2 ha'.1 hb'.1 (mW hu)
    rw [iY,aQ,aQ]
    by_cases q:aM x y=true
    ·rw [if_pos q]at h
     rw [q]at e
     have t:=ad8 xs ys A s _ _ _ _ r rs rs2 ha'.2 hb'.2 (room_tail hu) h
     refine .same e ?_
     simpa using t
    ·rw [if_neg q]at h
     rw [gW]at q
     rw [q]at e
     exact .diff e (abx x y A s _ _ _ _ r r1 r2 ha'.1 hb'.1 (mW hu) h)
end
end PF
namespace PF
open PySem PySem.Spec
theorem aaa{x y:ag}(hx:plD x=true)(hy:plD y=true)(h:x≠y):vh (x::xs) (y::ys)=ltP x y:=by
 rw [ad0,if_neg (fun z=> h ((aj5 x y hx hy).mp z))]
theorem afa{x:ag}(hx:plD x=true):vh (x::xs) (x::ys)=vh xs ys:=by
 rw [ad0,if_pos (aya hx)]
mutual
theorem a6g: ∀a:ag,plD a=true -> ltP a a≠some true
 |.none,_=> by simp [ltP]
 |.int i,_=> by simp [ltP]
 |.str i,_=> by rw [agj];simp [List.lt_irrefl]
 |.tuple xs,h=> by rw [ab0];exact ap5 xs (by rw [←vn];exact h)
 |.bool _,h=> by simp [plD]at h
 |.list _,h=> by simp [plD]at h
 |.dict _,h=> by simp [plD]at h
theorem ap5: ∀xs:List ag,xo xs=true -> vh xs xs≠some true
 |[],_=> by rw [yn];simp
 |x::xs,h=> by
  rw [yk,aG]at h
  rw [afa h.1]
  exact ap5 xs h.2
end
mutual
theorem azw: ∀a b:ag,plD a=true -> plD b=true -> ltP a b=some true -> ltP b a=some false
 |.int i,b,_,hb,h=> by
  cases b <;> simp [ltP]at h⊢
  lia
 |.str i,b,_,hb,h=> by
  cases b <;> simp [ltP]at h⊢
  exact List.le_of_lt h
 |.tuple xs,.tuple ys,ha,hb,h=> by
  rw [ab0]at h⊢
  exact atq xs ys (by rw [←vn];exact ha) (by rw [←vn];exact hb) h
 |.tuple xs,.none,_,_,h=> by simp [ltP]at h
 |.tuple xs,.int _,_,_,h=> by simp [ltP]at h
 |.tuple xs,.str _,_,_,h=> by simp [ltP]at h
 |.tuple xs,.bool _,_,hb,_=> by simp [plD]at hb
 |.tuple xs,.list _,_,hb,_=> by simp [plD]at hb
 |.tuple xs,.dict _,_,hb,_=> by simp [plD]at hb
 |.none,_,_,_,h=> by simp [ltP]at h
 |.bool _,_,ha,_,_=> by simp [plD]at ha
 |.list _,_,ha,_,_=> by simp [plD]at ha
 |.dict _,_,ha,_,_=> by simp [plD]at ha
theorem atq: ∀xs ys:List ag,xo xs=true -> xo ys=true -> vh xs ys=some true -> vh ys xs=some false
 |[],[],_,_,h=> by rw [yn]at h;cases h
 |[],_::_,_,_,h=> by rw [vg]
 |_::_,[],_,_,h=> by rw [vg]at h;cases h
 | x::xs,y::ys,ha,hb,h=> by
  rw [yk,aG]at ha hb
  by_cases e:x=y
  ·subst e
   rw [afa ha.1]at h⊢
   exact atq xs ys ha.2 hb.2 h
  ·rw [aaa ha.1 hb.1 e]at h
   rw [aaa hb.1 ha.1 (cW e)]
   exact azw x y ha.1 hb.1 h
end
theorem a7i{b:ag}(ha:plD a=true)(h:ltP a b=some true):a≠b:=fun e=> by subst e;exact a6g a ha h
mutual
theorem av7: ∀a b:ag,plD a=true -> plD b=true -> ltP a b=some false -> a=b\/ltP b a=some true
 |.int i,b,_,hb,h=> by
  cases b <;> simp [ltP]at h⊢
  lia
 | .str i,b,_,hb,h=> by
  cases b with
  | str j=>
   simp [ltP]at h⊢
   rcases List.le_iff_lt_or_eq.mp h with z|z
   ·exact .inr z
   ·refine .inl ?_
    cases i;cases j
    simp at z
    simp [z]
  |_=> simp [ltP]at h
 |.tuple xs,.tuple ys,ha,hb,h=> by
  rw [ab0]at h⊢
  rcases apk xs ys (by rw [←vn];exact ha) (by rw [←vn];exact hb) h with z|z
  ·exact .inl (by rw [z])
  ·exact .inr z
 |.tuple xs,.none,_,_,h=> by simp [ltP]at h
 |.tuple xs,.int _,_,_,h=> by simp [ltP]at h
 |.tuple xs,.str _,_,_,h=> by simp [ltP]at h
 |.tuple xs,.bool _,_,hb,_=> by simp [plD]at hb
 |.tuple xs,.list _,_,hb,_=> by simp [plD]at hb
 |.tuple xs,.dict _,_,hb,_=> by simp [plD]at hb
 |.none,_,_,_,h=> by simp [ltP]at h
 |.bool _,_,ha,_,_=> by simp [plD]at ha
 |.list _,_,ha,_,_=> by simp [plD]at ha
 |.dict _,_,ha,_,_=> by simp [plD]at ha
theorem apk: ∀xs ys:List ag,xo xs=true -> xo ys=true -> vh xs ys=some false -> xs=ys\/vh ys xs=some true
 |[],[],_,_,h=>.inl rfl
 |[],_::_,_,_,h=> by rw [x8]at h;cases h
 |_::_,[],_,_,h=>.inr x8
 | x::xs,y::ys,ha,hb,h=> by
  rw [yk,aG]at ha hb
  by_cases e:x=y
  ·subst e
   rw [afa ha.1]at h⊢
   rcases apk xs ys ha.2 hb.2 h with z|z
   ·exact .inl (by rw [z])
   ·exact .inr z
  ·rw [aaa ha.1 hb.1 e]at h
   rw [aaa hb.1 ha.1 (cW e)]
   rcases av7 x y ha.1 hb.1 h with z|z
   ·exact absurd z e
   ·exact .inr z
end
mutual
theorem azs: ∀a b c:ag,plD a=true -> plD b=true -> plD c=true -> ltP a b=some true -> ltP b c=some true -> ltP a c=some true
 |.int i,b,c,_,_,_,h,k=> by
  cases b <;> simp [ltP]at h
  cases c <;> simp [ltP]at k⊢
  lia
 |.str i,b,c,_,_,_,h,k=> by
  cases b <;> simp [ltP]at h
  cases c <;> simp [ltP]at k⊢
  exact List.lt_trans h k
 |.tuple xs,.tuple ys,.tuple zs,ha,hb,hc,h,k=> by
  rw [ab0]at h k⊢
  exact au6 xs ys zs (by rw [←vn];exact ha) (by rw [←vn];exact hb) (by rw [←vn];exact hc) h k
 |.tuple xs,.tuple ys,.none,_,_,_,_,h=> by simp [ltP]at h
 |.tuple xs,.tuple ys,.int _,_,_,_,_,h=> by simp [ltP]at h
 |.tuple xs,.tuple ys,.str _,_,_,_,_,h=> by simp [ltP]at h
 |.tuple xs,.tuple ys,.bool _,_,_,hb,_,_=> by simp [plD]at hb
 |.tuple xs,.tuple ys,.list _,_,_,hb,_,_=> by simp [plD]at hb
 |.tuple xs,.tuple ys,.dict _,_,_,hb,_,_=> by simp [plD]at hb
 |.tuple xs,.none,_,_,_,_,h,_=> by simp [ltP]at h
 |.tuple xs,.int _,_,_,_,_,h,_=> by simp [ltP]at h
 |.tuple xs,.str _,_,_,_,_,h,_=> by simp [ltP]at h
 |.tuple xs,.bool _,_,_,hb,_,_,_=> by simp [plD]at hb
 |.tuple xs,.list _,_,_,hb,_,_,_=> by simp [plD]at hb
 |.tuple xs,.dict _,_,_,hb,_,_,_=> by simp [plD]at hb
 |.none,_,_,_,_,_,h,_=> by simp [ltP]at h
 |.bool _,_,_,ha,_,_,_,_=> by simp [plD]at ha
 |.list _,_,_,ha,_,_,_,_=> by simp [plD]at ha
 |.dict _,_,_,ha,_,_,_,_=> by simp [plD]at ha
theorem au6: ∀xs ys zs:List ag,xo xs=true -> xo ys=true -> xo zs=true -> vh xs ys=some true -> vh ys zs=some true -> vh xs zs=some true
 |[],ys,[],_,_,_,h,k=> by
  cases ys with
  |nil=> rw [yn]at h;cases h
  |cons y ys=> rw [vg]at k;cases k
 |[],_,_::_,_,_,_,_,_=> x8
 |_::_,[],_,_,_,_,h,_=> by rw [vg]at h;cases h
 |_::_,_::_,[],_,_,_,_,k=> by rw [vg]at k;cases k
 | x::xs,y::ys,z::zs,ha,hb,hc,h,k=> by
  rw [yk,aG]at ha hb hc
  by_cases e:x=y
  ·subst e
   rw [afa ha.1]at h
   by_cases e2:x=z
   ·subst e2
    rw [afa ha.1]at k⊢
    exact au6 xs ys zs ha.2 hb.2 hc.2 h k
   ·rw [aaa ha.1 hc.1 e2]at k⊢
    exact k
  ·rw [aaa ha.1 hb.1 e]at h
   by_cases e2:y=z
   ·subst e2
    rw [aaa ha.1 hb.1 e]
    exact h
   ·rw [aaa hb.1 hc.1 e2]at k
    have t:=azs x y z ha.1 hb.1 hc.1 h k
    rw [aaa ha.1 hc.1 (a7i ha.1 t)]
    exact t
end
def ltb(a b:ag):Bool:=match ltP a b with
 |some true=> true
 |_=> false
theorem aal{b:ag}:ltb a b=true ↔ ltP a b=some true:=by
 unfold ltb
 split
 ·rename_i h;simp [h]
 ·rename_i h
  constructor
  ·intro z;cases z
  ·intro z;exact absurd z h
def zd(ds:List ag):Bool:=ds.all fun a=> plD a&&ds.all fun b=> (ltP a b).isSome
theorem aai(h:zd ds=true)(m:a∈ds):plD a=true:=by
 have:=aI.mp h a m
 rw [aG]at this
 exact this.1
theorem af8(h:zd ds=true){b:ag}(m:a∈ds)(k:b∈ds): ∃r,ltP a b=some r:=by
 have:=aI.mp h a m
 rw [aG]at this
 have:=aI.mp this.2 b k
 exact jV.mp this
theorem arr(h:zd ds=true){b:ag}(m:a∈ds)(k:b∈ds)(e:ltb a b=false):a=b\/ltb b a=true:=by
 obtain⟨r,hr⟩:=af8 h m k
 cases r with
 |true=> rw [aal.mpr hr]at e;cases e
 |false=>
  rcases av7 a b (aai h m) (aai h k) hr with z|z
  ·exact .inl z
  ·exact .inr (aal.mpr z)
theorem ank(h:zd ds=true){b:ag}(m:a∈ds)(k:b∈ds)(e:ltb a b=true):ltb b a=false:=by
 have:=azw a b (aai h m) (aai h k) (aal.mp e)
 cases q:ltb b a with
 |false=> rfl
 |true=> rw [aal.mp q]at this;cases this
theorem a5m(h:zd ds=true){b c:ag}(m:a∈ds)(k:b∈ds)(l:c∈ds)(e:ltb a b=true)(e2:ltb b c=true):ltb a c=true:=
 aal.mpr (azs a b c (aai h m) (aai h k) (aai h l) (aal.mp e) (aal.mp e2))
theorem apo(h:zd ds=true){b c:ag}(m:a∈ds)(k:b∈ds)(l:c∈ds)(e:ltb a b=false)(e2:ltb b c=false):ltb a c=false:=by
 rcases arr h m k e with rfl|z
 ·exact e2
 ·rcases arr h k l e2 with rfl|z2
  ·exact e
  ·exact ank h l m (a5m h l k m z2 z)
abbrev ab3(ds:List ag):Prop:=ds.Pairwise fun a b=> ltb b a=false
def ajn(x:ag):List ag -> List ag
 |[]=> [x]
 |y::r=> if ltb y x=true then y::ajn x r else x::y::r
def aeo:List ag -> List ag
 |[]=> []
 |x::r=> ajn x (aeo r)
theorem ahp(x:ag): ∀l:List ag,(ajn x l).Perm (x::l)
 |[]=>.refl _
 |y::r=> by
  unfold ajn
  split
  ·exact ((ahp x r).cons y).trans (.swap x y r)
  ·exact .refl _
theorem z3: ∀l:List ag,(aeo l).Perm l
 |[]=>.refl _
 |x::r=> (ahp x _).trans ((z3 r).cons x)
theorem ane{ds:List ag}(h:zd ds=true){x:ag}(hx:x∈ds): ∀l:List ag,(∀y∈l,y∈ds) -> ab3 l -> ab3 (ajn x l)
 |[],_,_=> kM _ _
 | y::r,hl,hr=> by
  obtain⟨h1,h2⟩:=dt.mp hr
  have hy:=hl y aB
  unfold ajn
  split
  ·rename_i c
   refine dt.mpr ⟨fun z hz=> ?_,ane h hx r (fun z hz=> hl z (az _ hz)) h2⟩
   rcases aw.mp ((ahp x r).mem_iff.mp hz) with rfl|hz
   ·exact ank h hy hx c
   ·exact h1 z hz
  ·rename_i c
   have c':ltb y x=false:=by simpa using c
   refine dt.mpr ⟨fun z hz=> ?_,hr⟩
   (rcases aw.mp hz with rfl|hz)
   ·exact c'
   ·exact apo h (hl z (az _ hz)) hy hx (h1 z hz) c'
theorem aj1{ds:List ag}(h:zd ds=true): ∀l:List ag,(∀y∈l,y∈ds) -> ab3 (aeo l)
 |[],_=> gF
 |x::r,hl=> ane h (hl x aB) _ (fun y hy=> hl y (az _ ((z3 r).mem_iff.mp hy))) (aj1 h r fun y hy=> hl y (az _ hy))
theorem af4(h:zd ds=true):ab3 (aeo ds):=aj1 h ds fun _ y=> y
theorem axw{l m:List ag}(h:zd ds=true)(pl:l.Perm ds)(pm:m.Perm ds)(hl:ab3 l)(hm:ab3 m):l=m:=by
 refine lc.eq_of_pairwise (le:=fun a b=> ltb b a=false) ?_ hl hm (pl.trans pm.symm)
 intro a b ha hb e1 e2
 rcases arr h (pm.mem_iff.mp hb) (pl.mem_iff.mp ha) e1 with z|z
 ·exact z.symm
 ·rw [e2]at z;cases z
theorem ahs{l:List ag}(h:zd ds=true)(pl:l.Perm ds)(hl:ab3 l):l=aeo ds:=axw h pl (z3 ds) hl (af4 h)
end PF
namespace KS
open PySem PySem.W PyProof.Rows
noncomputable def run{α:Type}(lt:Nat -> Nat -> Bool):KasT α -> α
 |.ret a=> a
 |.ask i j k=> run lt (k (lt i j))
section
variable{lt:Nat -> Nat -> Bool}
theorem aaw{α β:Type}(f:α -> KasT β): ∀t:KasT α,run lt (t.bind f)=run lt (f (run lt t))
 |.ret a=> rfl
 |.ask i j k=> aaw f (k (lt i j))
theorem zb{α:Type}(a:α):run lt (.ret a)=a:=rfl
theorem adf{α:Type}(i j:Nat)(k:Bool -> KasT α):run lt (.ask i j k)=run lt (k (lt i j)):=rfl
theorem ac1{α:Type}(c:Prop)[Decidable c](a b:KasT α):run lt (if c then a else b)=if c then run lt a else run lt b:=by split <;> rfl
structure Swo (lt:Nat -> Nat -> Bool):Prop where
 tr: ∀{a b c},lt a b=false -> lt b c=false -> lt a c=false
 as: ∀{a b},lt a b=true -> lt b a=false
theorem Swo.irr(w:Swo lt)(a:Nat):lt a a=false:=by
 cases h:lt a a with
 |false=> rfl
 |true=> have:=w.as h;rw [h]at this;exact this
def Up(lt:Nat -> Nat -> Bool)(p:Array Nat)(m:Nat):Prop:= ∀k,0 < k -> k < m -> lt (p.getD k 0) (p.getD (k - 1) 0)=false
def y1(lt:Nat -> Nat -> Bool)(p:Array Nat)(m:Nat):Prop:= ∀k,0 < k -> k < m -> lt (p.getD (k - 1) 0) (p.getD k 0)=false
theorem Up.all(w:Swo lt){p:Array Nat}{m:Nat}(h:Up lt p m): ∀(d i:Nat),i+d < m -> lt (p.getD (i+d) 0) (p.getD i 0)=false
 |0,i,_=> w.irr _
 |d+1,i,hl=> by
  have a:=h (i+(d+1)) (by lia) hl
  rw [show i+(d+1) - 1=i+d by lia]at a
  exact w.tr a (Up.all w h d i (by lia))
theorem Up.le(w:Swo lt){p:Array Nat}{m:Nat}(h:Up lt p m){i j:Nat}(hij:i <=j)(hj:j < m):lt (p.getD j 0) (p.getD i 0)=false:=by
 have:=Up.all w h (j - i) i (by lia)
 rwa [show i+(j - i)=j by lia]at this
theorem y1.all(w:Swo lt){p:Array Nat}{m:Nat}(h:y1 lt p m): ∀(d i:Nat),i+d < m -> lt (p.getD i 0) (p.getD (i+d) 0)=false
 |0,i,_=> w.irr _
 |d+1,i,hl=> by
  have a:=h (i+(d+1)) (by lia) hl
  rw [show i+(d+1) - 1=i+d by lia]at a
  exact w.tr (y1.all w h d i (by lia)) a
theorem y1.le(w:Swo lt){p:Array Nat}{m:Nat}(h:y1 lt p m){i j:Nat}(hij:i <=j)(hj:j < m):lt (p.getD i 0) (p.getD j 0)=false:=by
 have:=y1.all w h (j - i) i (by lia)
 rwa [show i+(j - i)=j by lia]at this
theorem amg{p:Array Nat}: ∀(f n:Nat),0 < n -> Up lt p n -> n <=run lt (gz p f n)/\run lt (gz p f n) <=n+f/\Up lt p (run lt (gz p f n))/\(run lt (gz p f n) < n+f -> lt (p.getD (run lt (gz p f n)) 0) (p.getD (run lt (gz p f n) - 1) 0)=true)
 |0,n,_,h=> by
  rw [gz,zb]
  exact⟨au _,au _,h,fun z=> absurd z (by lia)⟩
 | f +1,n,h0,h=> by
  rw [gz,adf]
  cases e:lt (p.getD n 0) (p.getD (n - 1) 0) with
  |true=>
   rw [if_pos rfl,zb]
   exact⟨au _,by lia,h,fun _=> e⟩
  | false=>
   rw [if_neg aq]
   have up:Up lt p (n+1):=fun k k0 k1=> by
    by_cases z:k < n
    ·exact h k k0 z
    ·have:k=n:=by lia
     subst this;exact e
   obtain⟨a,b,c,d⟩:=amg f (n+1) (by lia) up
   exact⟨by lia,by lia,c,fun z=> d (by lia)⟩
theorem ahb(w:Swo lt){p:Array Nat}{k:Nat}(up:Up lt p k): ∀(f l r:Nat),l <=r -> r <=k -> r - l <=f -> (∀i,i < l -> lt (p.getD k 0) (p.getD i 0)=false) -> (∀i,r <=i -> i < k -> lt (p.getD k 0) (p.getD i 0)=true) ->
  run lt (gj p k f l r) <=k/\(∀i,i < run lt (gj p k f l r) -> lt (p.getD k 0) (p.getD i 0)=false)/\ ∀i,run lt (gj p k f l r) <=i -> i < k -> lt (p.getD k 0) (p.getD i 0)=true
 |0,l,r,hlr,hrk,hf,h1,h2=> by
  have:l=r:=by lia
  subst this
  rw [gj,zb]
  exact⟨hrk,h1,h2⟩
 | f +1,l,r,hlr,hrk,hf,h1,h2=> by
  rw [gj,ac1]
  by_cases z:l≥r
  ·rw [if_pos z,zb]
   have:l=r:=by lia
   subst this
   exact⟨hrk,h1,h2⟩
  ·rw [if_neg z,adf]
   have m1:l <=(l+r)/2:=by lia
   have m2:(l+r)/2 < r:=by lia
   generalize (l+r)/2=m at m1 m2
   cases e:lt (p.getD k 0) (p.getD m 0) with
   | true=>
    rw [if_pos rfl]
    refine ahb w up f l m m1 (by lia) (by lia) h1 fun i i0 i1=> ?_
    by_cases q:r <=i
    ·exact h2 i q i1
    ·cases e2:lt (p.getD k 0) (p.getD i 0) with
     |true=> rfl
     |false=>
      have:=w.tr e2 (up.le w (i:=m) (j:=i) i0 i1)
      rw [e]at this;cases this
   |false=>
    rw [if_neg aq]
    refine ahb w up f (m+1) r (by lia) hrk (by lia) (fun i i0=> ?_) h2
    exact w.tr e (up.le w (i:=i) (j:=m) (by lia) (by lia))
end
section
variable{lt:Nat -> Nat -> Bool}
theorem gd(p:Array Nat)(k:Nat):p.getD k 0=(p[k]?).getD 0:=Array.getD_eq_getD_getElem? ..
theorem aok{p:Array Nat}{d:Nat}(hk:k < p.size)(hd:d <=k)(i:Nat):(bubble p k d).getD i 0=if i=k - d then p.getD k 0 else if k - d < i/\i <=k then p.getD (i - 1) 0 else p.getD i 0:=by
 rw [gd,getElem?_bubble hk d hd]
 by_cases c1:i=k - d
 ·rw [if_pos c1,if_pos c1];exact (gd p k).symm
 ·rw [if_neg c1,if_neg c1]
  by_cases c2:k - d < i/\i <=k
  ·rw [if_pos c2,if_pos c2];exact (gd p _).symm
  ·rw [if_neg c2,if_neg c2];exact (gd p _).symm
theorem ye{p:Array Nat}{i j:Nat}(hj:j <=p.size)(k:Nat):(hV p i j).getD k 0=if i <=k/\k < j then p.getD (i+j - 1 - k) 0 else p.getD k 0:=by
 unfold hV
 rw [gd,getElem?_mirror_all hj]
 split <;> rw [gd]
theorem xn(p:Array Nat)(i j:Nat):(hV p i j).Perm p:=mirror_perm _ _ _ _
theorem amm(p:Array Nat)(i j:Nat):(hV p i j).size=p.size:=mirror_size _ _ _ _
theorem auz(w:Swo lt): ∀(f:Nat) (p:Array Nat) (k:Nat),k+f=p.size -> Up lt p k -> (run lt (ni f p k)).Perm p/\Up lt (run lt (ni f p k)) p.size
 |0,p,k,hs,up=> by
  rw [ni,zb]
  have:k=p.size:=by lia
  subst this
  exact⟨.refl _,up⟩
 | f +1,p,k,hs,up=> by
  rw [ni,aaw]
  obtain⟨l1,l2,l3⟩:=ahb w up k 0 k (cy _) (au _) (by lia) (fun i h=> absurd h (Nat.not_lt_zero _)) (fun i h1 h2=> absurd h2 (by lia))
  generalize run lt (gj p k k 0 k)=l at l1 l2 l3
  have hk:k < p.size:=by lia
  have up1:Up lt (bubble p k (k - l)) (k+1):=fun i i0 i1=> by
   rw [aok hk (by lia),aok hk (by lia),show k - (k - l)=l by lia]
   by_cases c1:i < l
   ·rw [if_neg (by lia),if_neg (by lia),if_neg (by lia),if_neg (by lia)]
    exact up i i0 (by lia)
   ·by_cases c2:i=l
    ·subst c2
     rw [if_pos rfl,if_neg (by lia),if_neg (by lia)]
     exact l2 (i - 1) (by lia)
    ·by_cases c3:i=l+1
     ·subst c3
      rw [if_neg (by lia),if_pos (by lia),if_pos (by lia)]
      exact w.as (l3 _ (by lia) (by lia))
     ·rw [if_neg (by lia),if_pos (by lia),if_neg (by lia),if_pos (by lia)]
      exact up (i - 1) (by lia) (by lia)
  obtain⟨a,b⟩:=auz w f (bubble p k (k - l)) (k+1) (by rw [bubble_size];lia) up1
  exact⟨a.trans (bubble_perm _ _ _),by rw [bubble_size]at b;exact b⟩
def Seg(lt:Nat -> Nat -> Bool)(p:Array Nat)(n q:Nat):Prop:= ∀k,n - 1 - q < k -> k < n -> lt (p.getD k 0) (p.getD (k - 1) 0)=false
theorem ao4(w:Swo lt){p:Array Nat}{q:Nat}(hn:n <=p.size)(hq:q < n)(d:y1 lt p n)(s:Seg lt p n q):y1 lt (hV p (n - (q+1)) n) n:=fun k k0 k1=> by
 rw [ye hn,ye hn]
 by_cases c1:k < n - (q+1)
 ·rw [if_neg (by lia),if_neg (by lia)]
  exact d k k0 k1
 ·by_cases c2:k=n - (q+1)
  ·rw [if_neg (by lia),if_pos (by lia)]
   exact d.le w (by lia) (by lia)
  ·rw [if_pos (by lia),if_pos (by lia)]
   have:=s (n - (q+1)+n - 1 - (k - 1)) (by lia) (by lia)
   rwa [show n - (q+1)+n - 1 - (k - 1) - 1=n - (q+1)+n - 1 - k by lia]at this
theorem a55{p:Array Nat}(hn:n <=p.size)(d:y1 lt p n):Up lt (hV p 0 n) n:=fun k k0 k1=> by
 rw [ye hn,ye hn,if_pos (by lia),if_pos (by lia)]
 have:=d (0+n - 1 - (k - 1)) (by lia) (by lia)
 rwa [show 0+n - 1 - (k - 1) - 1=0+n - 1 - k by lia]at this
theorem a6d{p:Array Nat}(hn:n <=p.size)(d:Up lt p n):y1 lt (hV p 0 n) n:=fun k k0 k1=> by
 rw [ye hn,ye hn,if_pos (by lia),if_pos (by lia)]
 have:=d (0+n - 1 - (k - 1)) (by lia) (by lia)
 rwa [show 0+n - 1 - (k - 1) - 1=0+n - 1 - k by lia]at this
theorem abj{p:Array Nat}(d:y1 lt p n)(h:lt (p.getD (n - 1) 0) (p.getD n 0)=false):y1 lt p (n+1):=fun k k0 k1=> by
 by_cases z:k < n
 ·exact d k k0 z
 ·have:k=n:=by lia
  subst this;exact h
structure DescOk (lt:Nat -> Nat -> Bool) (p:Array Nat) (n f:Nat) (r:Array Nat×Nat×Nat):Prop where
 pm:r.1.Perm p
 n1:n <=r.2.1
 n2:r.2.1 <=n+f
 q1:r.2.2 < r.2.1
 dn:y1 lt r.1 r.2.1
 sg:Seg lt r.1 r.2.1 r.2.2
theorem agn(w:Swo lt): ∀(f:Nat) (p:Array Nat) (n q:Nat),n+f <=p.size -> q < n -> y1 lt p n -> Seg lt p n q -> DescOk lt p n f (run lt (l4 f p n q))
 |0,p,n,q,hs,hq,d,s=> by
  rw [l4,zb]
  exact⟨.refl _,au _,au _,hq,d,s⟩
 | f +1,p,n,q,hs,hq,d,s=> by
  rw [l4,adf]
  cases e:lt (p.getD n 0) (p.getD (n - 1) 0) with
  | true=>
   rw [if_pos rfl,ac1]
   have sg0: ∀p:Array Nat,Seg lt p (n+1) 0:=fun p k k0 k1=> absurd k1 (by lia)
   by_cases z:q > 0
   ·rw [if_pos z]
    have hn:n <=p.size:=by lia
    have d1:y1 lt (hV p (n - (q+1)) n) (n+1):=by
     refine abj (ao4 w hn hq d s) ?_
     rw [ye hn,ye hn,if_pos (by lia),if_neg (by lia),show n - (q+1)+n - 1 - (n - 1)=n - (q+1) by lia]
     exact w.tr (d.le w (i:=n - (q+1)) (j:=n - 1) (by lia) (by lia)) (w.as e)
    obtain⟨a1,a2,a3,a4,a5,a6⟩:=agn w f _ (n+1) 0 (by rw [amm];lia) (by lia) d1 (sg0 _)
    exact⟨a1.trans (xn _ _ _),by lia,by lia,a4,a5,a6⟩
   ·rw [if_neg z]
    obtain⟨a1,a2,a3,a4,a5,a6⟩:=agn w f p (n+1) 0 (by lia) (by lia) (abj d (w.as e)) (sg0 _)
    exact⟨a1,by lia,by lia,a4,a5,a6⟩
  | false=>
   rw [if_neg aq,adf]
   cases e2:lt (p.getD (n - 1) 0) (p.getD n 0) with
   |true=>
    rw [if_pos rfl,zb]
    exact⟨.refl _,au _,by simp,hq,d,s⟩
   | false=>
    rw [if_neg aq]
    have s1:Seg lt p (n+1) (q+1):=fun k k0 k1=> by
     by_cases z:k < n
     ·exact s k (by lia) z
     ·have:k=n:=by lia
      subst this;exact e
    obtain⟨a1,a2,a3,a4,a5,a6⟩:=agn w f p (n+1) (q+1) (by lia) (by lia) (abj d e2) s1
    exact⟨a1,by lia,by lia,a4,a5,a6⟩
structure CountOk (lt:Nat -> Nat -> Bool) (p:Array Nat) (nrem:Nat) (r:Nat×Array Nat):Prop where
 pm:r.2.Perm p
 n1:1 <=r.1
 n2:r.1 <=nrem
 up:Up lt r.2 r.1
theorem amj{p p0:Array Nat}{nrem:Nat}(h0:0 < n)(hn:n <=nrem)(hz:nrem <=p.size)(pm:p.Perm p0)(d:y1 lt p n):CountOk lt p0 nrem (run lt (mX n nrem p)):=by
 unfold mX
 rw [aaw,zb]
 obtain⟨a,b,c,_⟩:=amg (lt:=lt) (p:=hV p 0 n) (nrem - n) n h0 (a55 (by lia) d)
 exact⟨(xn _ _ _).trans pm,by show 1 <=_;lia,by show _ <=nrem;lia,c⟩
theorem ah8(w:Swo lt){p p0:Array Nat}{nrem:Nat}(h0:0 < n)(hn:n+1 <=nrem)(hz:nrem <=p.size)(pm:p.Perm p0)(d:y1 lt p (n+1)):CountOk lt p0 nrem (run lt (mY n nrem p)):=by
 unfold mY
 rw [aaw]
 have D:=agn w (nrem - (n+1)) p (n+1) 0 (by lia) (by lia) d (fun k k0 k1=> absurd k1 (by lia))
 generalize run lt (l4 (nrem - (n+1)) p (n+1) 0)=r at D
 obtain⟨a1,a2,a3,a4,a5,a6⟩:=D
 have sz:r.1.size=p.size:=a1.size_eq
 rw [ac1]
 split
 ·exact amj (by lia) (by lia) (by rw [amm];lia) ((xn _ _ _).trans (a1.trans pm)) (ao4 w (by lia) a4 a5 a6)
 ·exact amj (by lia) (by lia) (by lia) (a1.trans pm) a5
theorem ayz(w:Swo lt){p:Array Nat}{nrem:Nat}(h1:1 <=nrem)(hz:nrem=p.size):CountOk lt p nrem (run lt (mZ nrem p)):=by
 unfold mZ
 rw [aaw]
 obtain⟨a,b,c,d⟩:=amg (lt:=lt) (p:=p) (nrem - 1) 1 (by lia) (fun k k0 k1=> absurd k1 (by lia))
 generalize run lt (gz p (nrem - 1) 1)=n at a b c d
 rw [ac1]
 split
 ·rename_i e
  exact⟨.refl _,a,by show n <=nrem;lia,c⟩
 ·rename_i e
  have hne:n≠nrem:=fun z=> e (by subst z;exact beq_self_eq_true n)
  have d':=d (by lia)
  rw [ac1]
  split
  ·rename_i h
   rw [adf]
   cases e2:lt (p.getD 0 0) (p.getD (n - 1) 0) with
   |true=>
    rw [if_pos rfl,zb]
    exact⟨.refl _,a,by show n <=nrem;lia,c⟩
   |false=>
    rw [if_neg aq]
    refine ah8 w (by lia) (by lia) (by rw [amm];lia) (xn _ _ _) (abj (a6d (by lia) c) ?_)
    rw [ye (by lia),ye (by lia),if_pos (by lia),if_neg (by lia),show 0+n - 1 - (n - 1)=0 by lia]
    exact w.tr e2 (w.as d')
  ·rename_i h
   have:n=1:=by lia
   subst this
   exact ah8 w (by lia) (by lia) (by lia) (.refl _) (abj (fun k k0 k1=> absurd k1 (by lia)) (w.as d'))
theorem a09(w:Swo lt)(h1:1 <=n):(run lt (kE n)).Perm (fE (bn n))/\Up lt (run lt (kE n)) n:=by
 unfold kE
 rw [aaw]
 have hz:n=(fE (bn n)).size:=by simp
 obtain⟨a,b,c,d⟩:=ayz w (p:=fE (bn n)) h1 hz
 generalize run lt (mZ n (fE (bn n)))=r at a b c d
 have sz:r.2.size=n:=by rw [a.size_eq];exact hz.symm
 rw [ac1]
 split
 ·rw [show max r.1 1=r.1 by lia]
  obtain⟨e,f⟩:=auz w (n - r.1) r.2 r.1 (by lia) d
  exact⟨e.trans a,by rw [sz]at f;exact f⟩
 ·rename_i h
  have:r.1=n:=by lia
  rw [this]at d
  exact⟨a,d⟩
end
def aat{α:Type}(n:Nat):KasT α -> (α -> Prop) -> Prop
 |.ret a,P=> P a
 |.ask i j k,P=> i < n/\j < n/\ ∀b,aat n (k b) P
section
variable{lt:Nat -> Nat -> Bool}{n:Nat}
theorem zz{α β:Type}{f:α -> KasT β}{P:α -> Prop}{P':β -> Prop}(h: ∀a,P a -> aat n (f a) P'): ∀t:KasT α,aat n t P -> aat n (t.bind f) P'
 |.ret a,q=> h a q
 |.ask i j k,q=> ⟨q.1,q.2.1,fun b=> zz h (k b) (q.2.2 b)⟩
theorem au4{α:Type}{cmp:Nat -> Nat -> (Bool -> ak -> Prop) -> ak -> Prop}{s:ak}{P:α -> Prop}{Q:α -> ak -> Prop}(hc: ∀i j (C:Bool -> ak -> Prop),i < n -> j < n -> C (lt i j) s -> cmp i j C s): ∀t:KasT α,aat n t P -> Q (run lt t) s -> t.kasWp cmp Q s
 |.ret a,_,q=> q
 |.ask i j k,a,q=> hc i j _ a.1 a.2.1 (au4 hc (k (lt i j)) (a.2.2 _) q)
def All(n:Nat)(p:Array Nat):Prop:= ∀x∈p.toList,x < n
theorem All.get{p:Array Nat}(h:All n p)(h0:0 < n)(k:Nat):p.getD k 0 < n:=by
 rw [gd]
 cases e:p[k]? with
 |none=> exact h0
 |some x=> exact h x (by rw [←bL]at e;exact bw e)
theorem All.perm{p q:Array Nat}(h:All n p)(e:q.Perm p):All n q:=fun x hx=> h x ((i9.mp e).mem_iff.mp hx)
theorem ahq{p:Array Nat}(h:All n p)(h0:0 < n): ∀f m:Nat,aat n (gz p f m) fun _=> True
 |0,m=> trivial
 |f+1,m=> ⟨h.get h0 _,h.get h0 _,fun b=> by
  cases b with
  |true=> dsimp only;rw [if_pos rfl];trivial
  |false=> dsimp only;rw [if_neg aq];exact ahq h h0 f (m+1)⟩
theorem acq(h0:0 < n): ∀(f:Nat) (p:Array Nat) (m q:Nat),All n p -> aat n (l4 f p m q) fun r=> All n r.1
 |0,p,m,q,h=> h
 | f+1,p,m,q,h=> ⟨h.get h0 _,h.get h0 _,fun b=> by
  cases b with
  |true=>
   dsimp only;rw [if_pos rfl]
   split
   ·exact acq h0 f _ _ _ (h.perm (xn _ _ _))
   ·exact acq h0 f _ _ _ h
  | false=>
   dsimp only;rw [if_neg aq]
   exact⟨h.get h0 _,h.get h0 _,fun b=> by
    cases b with
    |true=> dsimp only;rw [if_pos rfl];exact h
    |false=> dsimp only;rw [if_neg aq];exact acq h0 f _ _ _ h⟩⟩
theorem ai2(h0:0 < n){p:Array Nat}(h:All n p)(m r:Nat):aat n (mX m r p) fun x=> All n x.2:=by
 unfold mX
 refine zz (P:=fun _=> True) (fun a _=> ?_) _ (ahq (h.perm (xn _ _ _)) h0 _ _)
 exact h.perm (xn _ _ _)
theorem aez(h0:0 < n){p:Array Nat}(h:All n p)(m r:Nat):aat n (mY m r p) fun x=> All n x.2:=
 zz (fun a ha=> by
  split
  ·exact ai2 h0 (All.perm ha (xn _ _ _)) _ _
  ·exact ai2 h0 ha _ _) _ (acq h0 _ _ _ _ h)
theorem aqm(h0:0 < n){p:Array Nat}(h:All n p)(r:Nat):aat n (mZ r p) fun x=> All n x.2:=
 zz (fun a _=> by
  split
  ·exact h
  ·split
   ·exact⟨h.get h0 _,h.get h0 _,fun b=> by
     cases b with
     |true=> dsimp only;rw [if_pos rfl];exact h
     |false=> dsimp only;rw [if_neg aq];exact aez h0 (h.perm (xn _ _ _)) _ _⟩
   ·exact aez h0 h _ _) _ (ahq h h0 _ _)
theorem ae6(h0:0 < n){p:Array Nat}(h:All n p)(k:Nat): ∀f l r:Nat,aat n (gj p k f l r) fun _=> True
 |0,l,r=> trivial
 |f+1,l,r=> by
  rw [gj]
  split
  ·trivial
  ·exact⟨h.get h0 _,h.get h0 _,fun b=> by
    cases b with
    |true=> dsimp only;rw [if_pos rfl];exact ae6 h0 h k f _ _
    |false=> dsimp only;rw [if_neg aq];exact ae6 h0 h k f _ _⟩
theorem anx(h0:0 < n): ∀(f:Nat) (p:Array Nat) (k:Nat),All n p -> aat n (ni f p k) fun _=> True
 |0,p,k,h=> trivial
 |f+1,p,k,h=> zz (fun l _=> anx h0 f _ _ (h.perm (bubble_perm _ _ _))) _ (ae6 h0 h k _ _ _)
theorem aur(h0:0 < n):aat n (kE n) fun _=> True:=
 zz (fun r hr=> by
  split
  ·exact anx h0 _ _ _ hr
  ·trivial) _ (aqm h0 (fun x hx=> by simpa using hx) n)
end
section
variable{prog:aT}{w:aX}{A:bj}{E:af -> ak -> Prop}{s:ak}
theorem ayj(vs:List af):(vs.toArray.zip vs.toArray).map (·.2)=vs.toArray:=by
 apply Array.toList_inj.mp
 rw [Array.toList_map,ksk_zip]
 show (vs.zip vs).map Prod.snd=vs
 rw [List.map_snd_zip (au _)]
theorem ar7(vs:List af):(bn vs.length).map (fun i=> vs.getD i aZ)=vs:=by
 apply dF
 intro i
 rw [aL]
 by_cases h:i < vs.length
 ·rw [eO h,ar h]
  simp [h]
 ·rw [dv.mpr (by simpa using h),dv.mpr (by simpa using h)];rfl
theorem awu{a:Addr}{vs:List af}{lt:Nat -> Nat -> Bool}{P:PySem.Fin -> ak -> Prop}(ho:s.heap.get? a=some (seqObj "list" vs.toArray n))(h64:vs.length < 64)(wo:Swo lt)(hk:2 <=vs.length -> ∀s':ak,(∀b o,b≠a -> s.heap.get? b=some o -> s'.heap.get? b=some o) ->
   wpAny (model prog w) A (keyKind' vs.toArray) (fun κ s''=> s''=s'/\ ∀(i j:Nat) (C:Bool -> ak -> Prop),i < vs.length -> j < vs.length -> C (lt i j) s' -> wpAny (model prog w) A (keyLt' κ (vs.getD i aZ) (vs.getD j aZ)) C (fun _ _=> False) s') (fun _ _=> False) s') (h: ∀p:List Nat,p.Perm (bn vs.length) -> p.Pairwise (fun i j=> lt j i=false) -> P (.done (.ret .none)) {s with heap:=sortedHeap s.heap a vs (p.map fun i=> vs.getD i aZ).toArray}):
  wpAny (model prog w) A (cJ.«list.sort» ⟨[.ref a],[]⟩) P E s:=by --
 rw [list_sort_plain]
 (have ha:a < s.heap.objs.size:=ay ho)
 (refine ae (listItems_at ho rfl ?_))
 (refine ae (mz ho rfl ?_ (by rw [ax,sizeLine_eq];lia) (cy _)))
 obtain⟨e1,ho1⟩: ∃e1,(s.heap.update a (eA fun _=> (#[]:Array af))).get? a=some (seqObj "list" #[] e1):=⟨_,get?_update_seq ho (fun _=> #[])⟩
 (refine ae (nt ho1 rfl ?_))
 (refine ae (lL ?_ (by show vs.length <=_;rw [sizeLine_eq];lia)))
 (refine ae (wpAny_newList ?_ (cy _)))
 (refine bC ?_)
 generalize hh:((s.heap.update a (eA fun _=> (#[]:Array af))).push (seqObj "tuple" vs.toArray 0)).push (seqObj "list" #[] 0)=h6
 have ho6:h6.get? a=some (seqObj "list" #[] e1):=by
  rw [←hh,dH _ _ _ (by rw [size_push',gX];exact aR (cD ha)),dH _ _ _ (by rw [gX];exact aR ha)]
  exact ho1
 have kp: ∀b o,b≠a -> s.heap.get? b=some o -> h6.get? b=some o:=fun b o hb e=> by
  have hlt:b < s.heap.objs.size:=ay e
  rw [←hh,dH _ _ _ (by rw [size_push',gX];exact aR (cD hlt)),dH _ _ _ (by rw [gX];exact aR hlt),iw _ _ _ _ hb]
  exact e
 show wpAny (model prog w) A _ P E {s with heap:=h6}
 have hz: ∀out:Array af,sortedHeap s.heap a vs out=h6.update a (eA fun _=> out):=fun out=> by rw [←hh];rfl
 dsimp only
 by_cases h2:vs.toArray.size < 2 --
 ·rw [if_pos h2,if_pos h2]
  refine ae (ah ?_)
  rw [StateT.run_pure]
  refine ae (ah ?_)
  dsimp only
  (refine ae (nt ho6 rfl ?_))
  have e0:(arrOf (SortSt.mk' general' (vs.toArray.zip vs.toArray) #[] 7 none)).map (·.2)=vs.toArray:=ayj vs
  rw [e0]
  refine ae (mz ho6 rfl ?_ (cy _) (by rw [ax,sizeLine_eq];lia))
  (simp only [bne_self_eq_false,cc,if_false])
  have t:=h (bn vs.length) (lM _) (by
   rw [ax]at h2
   match hv:vs.length with
   |0=> simp
   |1=> simp
   |k+2=> lia)
  rw [ar7,hz]at t
  exact ah t
 ·rw [if_neg h2,if_neg h2]
  have h2':2 <=vs.length:=by rw [ax]at h2;lia
  refine ae (cL (hk h2' {s with heap:=h6} kp) ?_ fun _ _ x=> x.elim)
  rintro κ _ ⟨rfl,ask⟩
  have hw:(kE vs.length).kasWp (kas_ask prog w A κ vs) (fun p s'=> s'={s with heap:=h6}/\p.Perm (fE (bn vs.length))/\Up lt p vs.length) {s with heap:=h6}:=
   au4 (lt:=lt) (n:=vs.length) (fun i j C hi hj hC=> ask i j C hi hj hC) (kE vs.length) (aur (by lia)) ⟨rfl,a09 wo (by lia)⟩
  refine ae (cL (kat_run (Q:=fun st' s'=> ∃p:Array Nat,p.size=vs.length/\arrOf st'=p.map (kas_item (vs.toArray.zip vs.toArray))/\failedOf st'=none/\s'={s with heap:=h6}/\p.Perm (fE (bn vs.length))/\Up lt p vs.length)
   rfl h2' h64 (fun p' st' s' a1 a2 a3 a4=> ⟨p',a1,a2,a3,a4⟩) hw) ?_ fun _ _ e=> e)
  rintro⟨⟨⟩,st'⟩ s' ⟨p,hp,har,hf,rfl,pm,up⟩
  dsimp only
  have hout:=kat_snds rfl har
  rw [hout]
  (refine ae (nt ho6 rfl ?_))
  have hsz:(fE (p.toList.map fun i=> vs.getD i aZ)).size <=sizeLine:=by rw [ax,ao,aK,hp,sizeLine_eq];lia
  refine ae (mz ho6 rfl ?_ (cy _) (Nat.le_succ_of_le hsz))
  rw [hf]
  (simp only [bne_self_eq_false,cc,if_false])
  have t:=h p.toList (by have:=i9.mp pm;simpa using this) (by
   (rw [f7])
   intro i j hi hj hij
   rw [aK]at hi hj
   have u:=Up.le wo up (gc hij) (by lia)
   simpa [gy,hi,hj] using u)
  rw [hz]at t
  exact ah t
end
end KS
namespace PF
open PySem PySem.Spec PySem.W PyProof.Rows
open PySem.SeqAt
noncomputable def tyD:ag -> String
 |.none=> "NoneType"
 |.bool _=> "bool"
 |.int _=> "int"
 |.str _=> "str"
 |.list _=> "list"
 |.tuple _=> "tuple"
 |.dict _=> "dict"
section
variable{prog:aT}{w:aX}{A:bj}{E:af -> ak -> Prop}{s:ak}
theorem asz{v:af}{bs:List Addr}(h:dz s.heap v d bs):s.TypeIs v (tyD d):=by
 cases h with
 |none=> exact iL s
 |bool b=> exact PySem.typeIs_bool s b
 |int i t=> exact ia s i t
 |str x t=> exact typeIs_str s x t
 |list h1 h2 h3 h4=> exact⟨_,h1,h2⟩
 |tuple h1 h2 h3 h4=> exact⟨_,h1,h2⟩
 |dict h1 h2 h3 h4 h5=> exact⟨_,h1,h2⟩
theorem al2{x y:af}{Q:Bool -> ak -> Prop}(h:aj8 A s x y b)(q:Q b s):wpAny (model prog w) A (oneLt' false x y) Q E s:=
 kat_one x y (h prog w E _ (show PySem.W.BoolBack Q (.bool b) s from q))
theorem aw5{b:Addr}{us ws:Array af}{r:Bool}{Q:Bool -> ak -> Prop}(hl:s.heap.IsTuple l us)(hb:s.heap.IsTuple b ws)(hu:A.units < cLine)(lx:LexAt A.in1 s (decide (us.size < ws.size)) (us.toList.zip ws.toList) r)(q:Q r s):wpAny (model prog w) A (oneLt' true (.ref l) (.ref b)) Q E s:=by
 obtain⟨⟨c1,d1,e1,s1⟩,o1,k1,n1,q1⟩:=id hl
 obtain⟨⟨c2,d2,e2,s2⟩,o2,k2,n2,q2⟩:=id hb
 simp only at k1 q1 k2 q2
 subst k1 q1 k2 q2
 rw [oneLt'_eq]
 simp only [if_true]
 (refine ae (wpAny_cRoomFor hu ?_))
 refine ae (wpAny_callSpecialIfBound?_slot (T:="tuple") (id:="tuple.__lt__") ⟨_,o1,rfl⟩ ll ?_)
 refine gu ll ⟨_,o1,rfl⟩ F.entry_tuple_lt (F.args_tuple_lt_2 _ _) (atd l b us ws n1 n2 d1 d2 s1 s2 r) ⟨o1,o2,lx,?_⟩
 show wpAny (model prog w) A (truthOfDropped (.bool r)>>=fun x=> pure x) Q E s
 exact ae (cC (ah q))
theorem aef: ∀{vs:List af} {ds:List ag} {bs:List Addr} {Q:List af -> ak -> Prop},cY s.heap vs ds bs -> Q (ds.map fun d=> bE (tyD d)) s -> wpAny (model prog w) A (vs.mapM typeOf) Q E s
 |_,_,_,_,.nil,h=> by rw [List.mapM_nil];exact ah h
 |_,_,_,_,.cons r rs,h=> by
  rw [List.mapM_cons]
  exact ae (eJ (asz r) (ae (aef rs (ah h))))
inductive Fsts (h:Heap):List ag -> List (Option af) -> Prop
 |nil:Fsts h [] []
 |no {ds:List ag} {fs:List (Option af)}:Fsts h ds fs -> Fsts h (.tuple []::ds) (none::fs)
 |yes {ds xs:List ag} {x:ag} {u:af} {bs:List Addr} {fs:List (Option af)}:dz h u x bs -> Fsts h ds fs -> Fsts h (.tuple (x::xs)::ds) (some u::fs)
theorem akh: ∀{vs:List af} {ds:List ag} {bs:List Addr},cY s.heap vs ds bs -> (∀d∈ds,∃xs,d=.tuple xs) -> ∃fs,Fsts s.heap ds fs/\ ∀{Q:List (Option af) -> ak -> Prop},Q fs s -> wpAny (model prog w) A (vs.mapM firstOfTuple') Q E s
 |_,_,_,.nil,_=> ⟨[],.nil,fun h=> by rw [List.mapM_nil];exact ah h⟩
 | _, _,_,.cons (v:=v) r rs,ht=> by
  obtain⟨fs,F,k⟩:=akh rs fun d hd=> ht d (az _ hd)
  obtain⟨xs,e⟩:=ht _ aB
  subst e
  cases r with
  | @tuple a o us n _ _ h1 h2 h3 h4=>
   have go: ∀f:Option af,us[0]?=f -> ∀{Q:List (Option af) -> ak -> Prop},Q (f::fs) s -> wpAny (model prog w) A ((aS a::_).mapM firstOfTuple') Q E s:=fun f hf Q h=> by
    rw [List.mapM_cons,kas_first_eq]
    refine ae (ae (eJ (T:="tuple") ⟨_,h1,h2⟩ ?_))
    rw [if_neg (by simp)]
    refine ae (listItems_at h1 h3 (ah ?_))
    rw [hf]
    exact ae (k (ah h))
   cases xs with
   | nil=>
    have:us[0]?=none:=by
     have e:us.toList=[]:=by cases h5:us.toList with
      |nil=> rfl
      |cons a b=> rw [h5]at h4;cases h4
     rw [←bL,e];rfl
    exact⟨_,.no F,go _ this⟩
   | cons x xs=>
    cases h5:us.toList with
    |nil=> rw [h5]at h4;cases h4
    |cons u t=>
     rw [h5]at h4
     cases h4 with
     |cons r1 r2=> exact⟨_,.yes r1 F,go _ (by rw [←bL,h5];rfl)⟩
theorem alx: ∀{ds:List ag} {fs:List (Option af)},Fsts s.heap ds fs -> fs.all (·.isSome)=true -> ∃xs us bs,fs=us.map some/\cY s.heap us xs bs/\xs.length=ds.length/\ ∀(i:Nat) (d:ag),ds[i]?=some d -> ∃x r,xs[i]?=some x/\d=.tuple (x::r)
 |_,_,.nil,_=> ⟨[],[],_,rfl,.nil,rfl,fun i d e=> by simp at e⟩
 |_,_,.no F,h=> by simp at h
 |_,_,.yes r F,h=> by
  obtain⟨xs,us,bs,e,ra,hl,k⟩:=alx F (by simpa using h)
  refine⟨_::xs,_::us,_,by rw [e];rfl,.cons r ra,by simp [hl],fun i d e=> ?_⟩
  cases i with
  |zero=> simp at e;subst e;exact⟨_,_,rfl,rfl⟩
  |succ i=> simpa using k i d (by simpa using e)
def az3(ds:List ag)(κ:l6):Prop:=κ=general'\/κ=oneType'\/ ∃b,κ=tuples' b/\(b=true -> ∃T:String,T≠"tuple"/\ ∀d∈ds,∃x r,d=.tuple (x::r)/\tyD x=T)
theorem az0{vs:List af}{bs:List Addr}(ra:cY s.heap vs ds bs)(ht: ∀d∈ds,∃xs,d=.tuple xs)(hn:ds≠ []): ∃κ,az3 ds κ/\ ∀{Q:l6 -> ak -> Prop},Q κ s -> wpAny (model prog w) A (keyKind' vs.toArray) Q E s:=by
 obtain⟨fs,F,k⟩:=akh (prog:=prog) (w:=w) (A:=A) (E:=E) ra ht
 have hk: ∀{Q:l6 -> ak -> Prop},wpAny (model prog w) A (do
   if fs.toArray.all (·.isSome) then
    rule "list.sort.keys-are-tuples" --
    return tuples' ((←oneTypeOnly' (fs.toArray.filterMap id)).any (· !=.type "tuple"))
   if (fs.toArray[0]?.bind id).isSome then return general'
   return if (←oneTypeOnly' vs.toArray).isSome then oneType' else general') Q E s -> wpAny (model prog w) A (keyKind' vs.toArray) Q E s:=fun {Q} h=> by
  (rw [keyKind'_eq,gH,map_eq_pure_bind])
  exact ae (ae (k (ah h)))
 by_cases ha:fs.all (·.isSome)=true
 ·obtain⟨xs,us,cs,e,ru,hl,kk⟩:=alx F ha
  have e1:fs.toArray.all (·.isSome)=true:=by simpa using ha
  have e2:fs.toArray.filterMap id=us.toArray:=by rw [e];simp
  obtain⟨x0,xr,hx⟩: ∃x0 xr,xs=x0::xr:=by
   cases xs with
   |nil=> rw [dZ]at hl;exact absurd (eS.mp hl.symm) hn
   |cons a b=> exact⟨a,b,rfl⟩
  by_cases hT:xs.all (fun x=> decide (tyD x=tyD x0))=true
  ·refine⟨tuples' (bE (tyD x0) !=bE "tuple"),.inr (.inr ⟨_,rfl,fun hb=> ⟨tyD x0,fun z=> ?_,fun d hd=> ?_⟩⟩),fun {Q} h=> hk ?_⟩
   ·rw [z]at hb;simp at hb
   ·obtain⟨i,hi⟩:=hJ.mp hd
    obtain⟨x,r,h1,h2⟩:=kk i d hi
    exact⟨x,r,h2,of_decide_eq_true (aI.mp hT x (bw h1))⟩
   ·rw [if_pos e1,e2]
    refine ae (cB ?_)
    (rw [oneTypeOnly'_eq,gH,map_eq_pure_bind])
    refine ae (ae (ae (aef ru (ah ?_))))
    rw [hx]
    have h0:(bM (fun d=> bE (tyD d)) (x0::xr)).toArray[0]?=some (bE (tyD x0)):=by simp
    have hall:((bM (fun d=> bE (tyD d)) (x0::xr)).toArray.all fun x=> x==bE (tyD x0))=true:=by
     (simp only [kF,fF,aI])
     intro y hy
     have:=of_decide_eq_true (aI.mp hT y (by rw [hx];exact hy))
     simp [this]
    rw [h0]
    simp only [hall,if_true]
    (exact ah (ah h))
  ·refine⟨tuples' false,.inr (.inr ⟨_,rfl,fun hb=> by cases hb⟩),fun {Q} h=> hk ?_⟩
   rw [if_pos e1,e2]
   refine ae (cB ?_)
   (rw [oneTypeOnly'_eq,gH,map_eq_pure_bind])
   refine ae (ae (ae (aef ru (ah ?_))))
   rw [hx]
   have h0:(bM (fun d=> bE (tyD d)) (x0::xr)).toArray[0]?=some (bE (tyD x0)):=by simp
   have hall:((bM (fun d=> bE (tyD d)) (x0::xr)).toArray.all fun x=> x==bE (tyD x0))=false:=by
    rw [←hx]
    rw [gW,List.all_eq_false]at hT
    obtain⟨y,hy,hne⟩:=hT
    simp only [kF,fF,List.all_eq_false]
    refine⟨y,hy,?_⟩
    simpa using hne
   rw [h0]
   simp only [hall,cc,if_false]
   (exact ah (ah h))
 ·have e1: ¬fs.toArray.all (·.isSome)=true:=by simpa using ha
  by_cases hf:(fs.toArray[0]?.bind id).isSome=true
  ·exact⟨general',.inl rfl,fun {Q} h=> hk (by rw [if_neg e1,if_pos hf];exact ah h)⟩
  ·refine⟨oneType',.inr (.inl rfl),fun {Q} h=> hk ?_⟩
   rw [if_neg e1,if_neg hf,oneTypeOnly'_eq,gH,map_eq_pure_bind]
   refine ae (ae (ae (aef ra (ah ?_))))
   obtain⟨d0,dr,rfl⟩: ∃d0 dr,ds=d0::dr:=by
    cases ds with
    |nil=> exact absurd rfl hn
    |cons a b=> exact⟨a,b,rfl⟩
   have h0:(bM (fun d=> bE (tyD d)) (d0::dr)).toArray[0]?=some (bE (tyD d0)):=by simp
   have hall:((bM (fun d=> bE (tyD d)) (d0::dr)).toArray.all fun x=> x==bE (tyD d0))=true:=by
    (simp only [kF,fF,aI])
    intro y hy
    obtain⟨z,rfl⟩:=ht y hy
    obtain⟨z0,rfl⟩:=ht d0 aB
    simp [tyD]
   rw [h0]
   simp only [hall,if_true]
   (exact ah (ah h))
def a8v(b:Bool)(i:Nat)(xs ys:List ag):Prop:=b=true -> i=0 -> ∀x y xr yr,xs=x::xr -> ys=y::yr -> ltP x y≠none -> aM x y=false -> (∃i j,x=.int i/\y=.int j)\/ ∃i j,x=.str i/\y=.str j
theorem akz{b:Bool}: ∀(xs ys:List ag) (vs ws:List af) (as bs:List Addr) (i:Nat) (r:Bool) (Q:Bool -> ak -> Prop),cY s.heap vs xs as -> cY s.heap ws ys bs -> bh xs=true -> bh ys=true -> A.units+min (aN xs) (aN ys) < cLine -> vh xs ys=some r -> a8v b i xs ys -> Q r s ->
  KatLex prog w A b (decide (vs.length < ws.length)) Q (vs.zip ws) i s
 |[],[],_,_,_,_,i,r,Q,ra,rb,_,_,_,h,_,q=> by
  cases ra;cases rb
  rw [yn]at h
  cases h
  exact kat_nil q
 |[],_::_,_,_,_,_,i,r,Q,ra,rb,_,_,_,h,_,q=> by
  cases ra;cases rb
  rw [x8]at h
  cases h
  exact kat_nil (by simpa using q)
 |_::_,[],_,_,_,_,i,r,Q,ra,rb,_,_,_,h,_,q=> by
  cases ra;cases rb
  rw [vg]at h
  cases h
  exact kat_nil (by simpa using q)
 | x ::xs,y::ys,_,_,_,_,i,r,Q,ra,rb,ha,hb,hu,h,f2,q=> by
  have ha':x.canLay0=true/\bh xs=true:=by simpa [bh] using ha
  have hb':y.canLay0=true/\bh ys=true:=by simpa [bh] using hb
  rw [ad0]at h
  cases ra with
  | cons r1 rs=>
   cases rb with
   | cons r2 rs2=>
    have e:=eqAt_reads x y A s _ _ _ _ r1 r2 ha'.1 hb'.1 (mW hu)
    rw [iY,aQ,aQ]
    refine kat_cons (e prog w _ _ ?_)
    by_cases c:aM x y=true
    ·rw [if_pos c]at h
     rw [c]
     have t:=akz (b:=b) xs ys _ _ _ _ (i+1) r Q rs rs2 ha'.2 hb'.2 (room_tail hu) h (fun _ z=> by lia) q
     refine kat_yes ?_
     simpa using t
    ·rw [if_neg c]at h
     rw [gW]at c
     rw [c]
     refine kat_no ?_
     by_cases z:(b&&i==0)=true
     ·rw [z]
      rw [aG]at z
      rcases f2 z.1 (by simpa using z.2) x y xs ys rfl rfl (by rw [h];simp) c with ⟨p,p',rfl,rfl⟩|⟨p,p',rfl,rfl⟩
      ·rw [z9]at h
       cases h
       cases r1;cases r2
       exact oneLt_int q
      ·rw [agj]at h
       cases h
       cases r1;cases r2
       exact oneLt_str q
     ·rw [gW]at z
      rw [z]
      exact al2 (abx x y A s _ _ _ _ r r1 r2 ha'.1 hb'.1 (mW hu) h) q
theorem a1y{κ:l6}(hκ:az3 ds κ){v u:af}{as bs:List Addr}{r:Bool}{Q:Bool -> ak -> Prop}(mx:bR xs∈ds)(my:bR ys∈ds)(ra:dz s.heap v (.tuple xs) as)(rb:dz s.heap u (.tuple ys) bs)(hx:(bR xs).canLay0=true)(hy:(bR ys).canLay0=true)(hu:A.units+66 < cLine)(dx:(bR xs).depth <=64)(h:ltP (.tuple xs) (.tuple ys)=some r)(q:Q r s):wpAny (model prog w) A (keyLt' κ v u) Q E s:=by
 have hu':A.units+min (bR xs).depth (bR ys).depth < cLine:=by lia
 rcases hκ with rfl|rfl|⟨b,rfl,hb⟩
 ·exact al2 (abx _ _ A s _ _ _ _ r ra rb hx hy hu' h) q
 ·rw [keyLt'_oneType]
  cases ra with
  | tuple h1 h2 h3 h4=>
   cases rb with
   |tuple k1 k2 k3 k4=>
    rw [ab0]at h
    refine aw5 ⟨_,h1,h2,_,h3⟩ ⟨_,k1,k2,_,k3⟩ (room_here hu') ?_ q
    have t:=ad8 xs ys A.in1 s _ _ _ _ r h4 k4 hx hy (room_in hu') h
    simpa using t
 ·cases ra with
  | tuple h1 h2 h3 h4=>
   cases rb with
   | tuple k1 k2 k3 k4=>
    rw [ab0]at h
    refine kat_lt h1 h3 k1 k3 ?_
    have hd:aN xs < (bR xs).depth:=by simp only [aJ];lia
    have t:=akz (prog:=prog) (w:=w) (A:=A) (b:=b) xs ys _ _ _ _ 0 r Q h4 k4 hx hy (by lia) h (fun hb' _ x y xr yr e1 e2 hn ne=> ?_) q
    ·simpa using t
    ·obtain⟨T,hT,al⟩:=hb hb'
     obtain⟨x',r',e3,t3⟩:=al _ mx
     obtain⟨y',r'',e4,t4⟩:=al _ my
     rw [e1]at e3
     rw [e2]at e4
     cases e3;cases e4
     cases x <;> cases y <;> simp [ltP,tyD]at hn t3 t4⊢
     all_goals (subst t3;simp at hT t4)
end
end PF
namespace PF
open PySem PySem.Spec
open L2
variable[XW]
def aqg(dx dy:D)(s:S):R D:=match toP s dx,toP s dy with
 |some a,some b=> match ltP a b with
  |some r=> if okD a=true/\okD b=true then .ok (.bl r) s else .bad
  |none=>.bad
 |_,_=>.bad
theorem a6q(hu:X.A.units+64 < cLine):Op2 X (aY .Lt) aqg:=va fun pins sh σ H as s x y dx dy v u Q I rl r1 r2 rx ry h=> by
 unfold aqg at h
 split at h
 ·rename_i a b ea eb
  split at h
  ·rename_i r hr
   split at h
   ·rename_i hok
    obtain⟨bs1,q1⟩:=r1.reads I rl ea rx
    obtain⟨bs2,q2⟩:=r2.reads I rl eb ry
    obtain⟨c1,d1⟩:=aa0 hok.1
    obtain⟨c2,d2⟩:=aa0 hok.2
    exact abx a b _ _ _ _ _ _ r q1 q2 c1 c2 (by lia) hr _ _ _ _ ⟨.bl _,H,I,rfl,Dn.now (Q:=Q) h rl (.da (.bl _))⟩
   ·exact h.elim
  ·exact h.elim
 ·exact h.elim
end PF
namespace PF
open PySem PySem.Spec
open PySem.SeqAt
variable[XW]
end PF
namespace PF
open PySem PySem.Spec
open L2
variable[XW]
def ae3(ds:List D)(s:S):R D:=match ds with
 |[d]=> match (aek s d).bind acp with
  |some ss=> if ss.length < 4000 then .ok (.int (jk ss).length) s else .bad
  |none=>.bad
 |_=>.bad
theorem aso{f:FA}{p1 p2 pos2:Pos}(hc:X.calm=true)(hm1:X.mg "len"=none)(hm2:X.mg "set"=none)(ha:RA X [e] f)(hg1:Gl X "len":=by rfl)(hg2:Gl X "set":=by rfl)(hs:starEach [e] X.env=(false,eval e X.env)::starEach [] X.env:=by rfl)(hs2:starEach [.Call (.Name "set" p2) [e] [] pos2] X.env=(false,eval (.Call (.Name "set" p2) [e] [] pos2) X.env)::starEach [] X.env:=by rfl)(hpl:(backTo pos (starEach [] X.env)).any (·.1)=false:=by rfl)(hpl2:(backTo pos2 (starEach [] X.env)).any (·.1)=false:=by rfl):
  RE X (.Call (.Name "len" p1) [.Call (.Name "set" p2) [e] [] pos2] [] pos) (fCB ae3 f):=by
 obtain⟨t,pa,ra⟩:=ha.ex
 have pset:=afy (X:=X) (auq hc) hg2 hm2 azg pa (pos:=pos2) (p:=p2) (by decide) (by decide) hs hpl2
 have plen:=ahg (X:=X) avg hg1 hm1 als (agd pset ai1 hs2) (pos:=pos) (p:=p1) (by decide) (by decide) hs2 hpl
 refine⟨_,plen,fun as σ H ρ s Q rl en h=> ?_⟩
 refine ra as σ H ρ s _ rl en (Dn.bind h fun ds s1 as1 H1 vs st1 rl1 r1 h1=> ?_)
 unfold ae3 at h1
 split at h1
 ·obtain⟨v,rfl,rv⟩:=r1.one
  split at h1
  ·rename_i ss e
   split at h1
   ·rename_i hz
    cases e2:aek s1 _ with
    |none=> rw [e2]at e;cases e
    |some xs=>
     rw [e2]at e
     obtain⟨p,zs,rfl,sq,rz⟩:=ady rl1 rv e2
     obtain⟨ez,ex⟩:=aon rz (show acp xs=some ss from e)
     subst ez
     refine⟨p,ss,rfl,sq,hz,fun q H2 n2=> ⟨q,ss,rfl,n2.at,?_⟩⟩
     exact Dn.now (Q:=Q) (Dn.step h1 (j6 n2)) (rl1.new n2) (.da (.int _))
   ·exact h1.elim
  ·exact h1.elim
 ·exact h1.elim
end PF
namespace PF
open PySem PySem.Spec
open L2
variable[XW]
noncomputable def Its(x:Str):It:=⟨fun i _=> i < x.length,fun i H v H'=> H'=H/\ ∃c,x.cps.toList[i]?=some c/\v=.str ⟨#[c]⟩,fun i _=> x.length <=i⟩
theorem as9(x:Str)(t:Tok)(it:Addr):Turn P w K tg (Its x) [it] it (fun i h=> h.IsStrIter it "str_ascii_iterator" x t i) where
 mem:=by simp
 obj:=fun i h st b hb=> by
  cases bd.mp hb
  obtain⟨o,e,c,d⟩:=st
  exact⟨o,e,fun v z=> by rw [d]at z;cases z⟩
 keep:=fun i h h' st k=> by
  obtain⟨o,e,c,d⟩:=st
  exact⟨o,k it (by simp) o e,c,d⟩
 item:=by
  intro X hP hw hK hc i pins s σ H E I hf st hg
  subst hP hw hK
  have hl:i < x.cps.size:=hg
  have hx:x.cps[i]?=some x.cps[i]:=bV hl
  obtain⟨f0,f1,f2,f3,f4,f5⟩:=hf it (by simp)
  refine wpAny_pyNext_ascii_item st hx fun h' st' sb=> ?_
  have I1:Inv X pins σ H {s with heap:=h',toks:=s.toks+1}:=I.turned (t':=s.toks+1) (fun b o hb e=> (sb.2 b hb).trans e) f0 f1 f3 f4 f5
  obtain⟨o,e,c,d⟩:=id st'
  exact⟨_,rfl,alp (s:={s with heap:=h',toks:=s.toks+1}) e c d (by decide) ⟨.str ⟨#[x.cps[i]]⟩,H,I1,⟨_,rfl⟩,⟨rfl,x.cps[i],by rw [←hx,bL],rfl⟩,st',fun b hb=> (hf b hb).1⟩⟩
 done:=by
  intro X hP hw hK hc i pins s σ H E I hf st hg
  subst hP hw hK
  have hl:x.cps.size <=i:=hg
  obtain⟨f0,f1,f2,f3,f4,f5⟩:=hf it (by simp)
  exact wpAny_pyNext_ascii_end (I.ok.hd hc) st (gO hl) fun h' eb=> ⟨rfl,I.turned (t':=s.toks) (fun b o hb e=> eb b o hb e) f0 f1 f3 f4 f5⟩
 self:=fun _ _ _ _ _ st h=> wpAny_pyIter_striter_ascii st h
section
variable{X:Cx}{tg a:Expr}{fa:FE}
def ba7(tl:TE):TI:=fun σ H R=> tl σ H fun v H1=> ∃x,v=.str x/\x.cps.all (· < 128)=true/\R (Its x) H1
theorem a4f{l:Expr}{tl:TE}(hl:PE X l tl):PI X tg l (ba7 tl):=by
 intro pins s σ H R I h
 refine thn (hl pins s σ H _ I h) fun v s1 ⟨z,H1,I1,r1,q1⟩=> ?_
 obtain⟨x,rfl,hx,q⟩:=q1
 obtain⟨t,rfl⟩:=r1
 refine wpAny_pyIter_ascii hx ?_
 exact⟨s1.heap.objs.size,[s1.heap.objs.size],_,_,H1,rfl,I1.kept (t':=s1.toks) fun b o e=> aj _ e,as9 x t _,⟨_,aA _ rfl,rfl,rfl⟩,fun b hb=> by
  cases bd.mp hb
  exact I1.fpOk (au _) (I1.hok.fresh (au _)),q⟩
noncomputable def ab9(x:Str):List D:=x.cps.toList.map fun c=>.str ⟨#[c]⟩
theorem a36(x:Str):afk K as H (Its x) (ab9 x,none):=by
 intro as2 H2 s2 st rl so i
 have ln:(ab9 x).length=x.length:=by unfold ab9;rw [ao,aK];rfl
 refine⟨fun hl=> by rw [ln]at hl;exact hl,fun d hd=> ?_⟩
 have hl:i < x.length:=by
  have:=(aE.mp hd).1
  rw [ln]at this;exact this
 unfold ab9 at hd
 rw [aL]at hd
 cases e:x.cps.toList[i]? with
 |none=> rw [e]at hd;cases hd
 |some c=>
  rw [e]at hd
  cases hd
  refine⟨hl,fun v H3 hy=> ?_⟩
  obtain⟨rfl,c',ec,rfl⟩:=hy
  rw [e]at ec
  cases ec
  exact⟨Step.refl _ _,rl,.da (.str _)⟩
def aiw(d:D)(s:S):R Wk:=match d with
 |.da (.str x)=> if x.cps.all (· < 128)=true then .ok (ab9 x,none) s else .bad
 |_=>.bad
def ar4(f:FE):FI:=fun ρ s=> (f ρ s).bind aiw
theorem bbl(h:RE X a fa):RI X tg a (ar4 fa):=by
 obtain⟨t,p,r⟩:=h.ex
 refine⟨_,a4f p,fun as σ H ρ s Q rl en h=> ?_⟩
 refine r as σ H ρ s _ rl en (Dn.bind h fun d s1 as1 H1 v st1 rl1 r1 h1=> ?_)
 unfold aiw at h1
 split at h1
 ·rename_i x
  cases r1.str_inv
  split at h1
  ·rename_i hx
   exact⟨x,rfl,hx,Dn.now (Q:=Q) h1 rl1 (a36 x)⟩
  ·exact h1.elim
 ·exact h1.elim
end
end PF
namespace PF
open PySem PySem.Spec
open L2
variable[XW]
noncomputable def am4(x y:Str):Bool:= !(eP x y 0 x.length 1).isEmpty
def arx(dx dy:D)(s:S):R D:=match dx,dy with
 |.da (.str y),.da (.str x)=>.ok (.bl (am4 x y)) s
 |_,_=>.bad
theorem a7g:Op2 X (aY .In) arx:=va fun pins sh σ H as s x y dx dy v u Q I rl r1 r2 rx ry h=> by
 unfold arx at h
 split at h
 ·cases r1.str_inv;cases r2.str_inv
  obtain⟨t,rfl⟩:=rx
  obtain⟨t',rfl⟩:=ry
  exact PyProof.Rows.in_str (jz I (Dn.now (Q:=Q) h rl (.da (.bl _))) rfl)
 ·exact h.elim
theorem ao7: ∀c:Nat,c < 128 -> am4 (bg "abcdefghijklmnopqrstuvwxyz") ⟨#[c]⟩=(decide (97 <=c)&&decide (c <=122)):=by decide+kernel
end PF
namespace PF
open PySem PySem.Spec
open L2
section
variable{s:S}{a b:ag}{r c d:Bool}{x y:Str}{ρ:En}
theorem a2m(h:ltP a b=some r)(h1:okD a=true)(h2:okD b=true):aqg (.da a) (.da b) s=.ok (.bl r) s:=by
 show (match ltP a b with|some r=> if okD a=true/\okD b=true then R.ok (D.bl r) s else .bad|none=>.bad)=_
 rw [h]
 exact if_pos ⟨h1,h2⟩
theorem a6l:arx (.str y) (.str x) s=.ok (.bl (am4 x y)) s:=(rfl)
theorem ait(h:ss.length < 4000):ae3 [.tup (ss.map aF)] s=.ok (.int (jk ss).length) s:=by
 show (match acp ((ss.map aF).map D.da) with|some ss=> if ss.length < 4000 then R.ok (D.int (jk ss).length) s else .bad|none=>.bad)=_
 rw [show (ss.map aF).map D.da=ss.map D.str by rw [cu];rfl,al8]
 exact if_pos h
theorem aou(h:x.cps.all (· < 128)=true):aiw (.str x) s=.ok (ab9 x,none) s:=if_pos h
theorem a01:ar4 f ρ s=(f ρ s).bind aiw:=(rfl)
end
theorem amr{x:Str}(h:x.cps.all (· < 128)=true): ∀c∈x.cps.toList,am4 (bg "abcdefghijklmnopqrstuvwxyz") ⟨#[c]⟩=(decide (97 <=c)&&decide (c <=122)):=by
 intro c hc
 refine ao7 c ?_
 rw [←kG,aI]at h
 exact of_decide_eq_true (h c hc)
variable[XW]
noncomputable def ahi(ds:List D)(s:S):R D:=match ds with
 |[.da (.bool b)]=>.ok (.int (if b then 1 else 0)) s
 |_=>.bad
theorem a8g:CB X (.type "int") ahi:=ab5 fun pins sh σ H as s xs ds us Q I rl rs ru h=> by
 unfold ahi at h
 split at h
 ·obtain⟨v,rfl,rv⟩:=rs.one
  cases rv.bl_inv
  obtain⟨u,rfl,r9⟩:=vals1 ru
  cases r9
  exact PySem.call_int_bool (show EP X pins σ Q _ _ from ⟨.int _,H,I.tok _,⟨_,rfl⟩,Dn.now (Q:=Q) h rl (.da (.int _))⟩)
 ·exact h.elim
end PF
namespace PF
open PySem PySem.Spec
open L2
variable[XW]
end PF
namespace PF
open PySem PySem.Spec PySem.W PyProof.Rows
variable[XW]
open PySem.SeqAt
variable[XW]
def ltN(ds:List ag)(i j:Nat):Bool:=match ds[i]?,ds[j]? with
 |some a,some b=> ltb a b
 |some _,none=> true
 |none,_=> false
theorem a1n(h:zd ds=true):KS.Swo (ltN ds) where
 tr {a b c} h1 h2:=by
  unfold ltN at h1 h2⊢
  cases ha:ds[a]? with
  |none=> rfl
  | some x=>
   rw [ha]at h1
   cases hb:ds[b]? with
   |none=> rw [hb]at h1;cases h1
   | some y=>
    rw [hb]at h1 h2
    cases hc:ds[c]? with
    |none=> rw [hc]at h2;cases h2
    |some z=>
     rw [hc]at h2
     exact apo h (bw ha) (bw hb) (bw hc) h1 h2
 as {a b} h1:=by
  unfold ltN at h1⊢
  cases ha:ds[a]? with
  |none=> rw [ha]at h1;cases h1
  | some x=>
   rw [ha]at h1
   cases hb:ds[b]? with
   |none=> rfl
   |some y=>
    rw [hb]at h1
    exact ank h (bw ha) (bw hb) h1
section
variable{prog:aT}{w:aX}{A:bj}{E:af -> ak -> Prop}{s:ak}
theorem acv{h:Heap}: ∀{vs:List af} {ds:List ag} {bs:List Addr} {i:Nat},cY h vs ds bs -> i < ds.length -> ∃d cs,ds[i]?=some d/\dz h (vs.getD i aZ) d cs
 |_,_,_,_,.nil,hi=> by simp at hi
 |_,_,_,0,.cons r rs,_=> ⟨_,_,rfl,r⟩
 |_,_,_,i+1,.cons r rs,hi=> by
  obtain⟨d,cs,e,q⟩:=acv (i:=i) rs (by simpa using hi)
  exact⟨d,cs,by simpa using e,by simpa using q⟩
theorem a4y{vs:List af}{bs:List Addr}(ra:cY s.heap vs ds bs)(hc:zd ds=true)(hok:ds.all okD=true)(h2:2 <=vs.length)(hu:A.units+66 < cLine):
  wpAny (model prog w) A (keyKind' vs.toArray) (fun κ s''=> s''=s/\ ∀(i j:Nat) (C:Bool -> ak -> Prop),i < vs.length -> j < vs.length -> C (ltN ds i j) s -> wpAny (model prog w) A (keyLt' κ (vs.getD i aZ) (vs.getD j aZ)) C (fun _ _=> False) s) (fun _ _=> False) s:=by
 have hl:vs.length=ds.length:=ReadsAll.length ds vs bs ra
 have ask: ∀(κ:l6),(∀(x y:ag) (v u:af) (as cs:List Addr) (r:Bool) (C:Bool -> ak -> Prop),x∈ds -> y∈ds -> dz s.heap v x as -> dz s.heap u y cs -> ltP x y=some r -> C r s -> wpAny (model prog w) A (keyLt' κ v u) C (fun _ _=> False) s) ->
   s=s/\ ∀(i j:Nat) (C:Bool -> ak -> Prop),i < vs.length -> j < vs.length -> C (ltN ds i j) s -> wpAny (model prog w) A (keyLt' κ (vs.getD i aZ) (vs.getD j aZ)) C (fun _ _=> False) s:=fun κ k=> by
  refine⟨rfl,fun i j C hi hj hC=> ?_⟩
  obtain⟨x,as,ex,rx⟩:=acv (i:=i) ra (by lia)
  obtain⟨y,cs,ey,ry⟩:=acv (i:=j) ra (by lia)
  have mx:=bw ex
  have my:=bw ey
  obtain⟨r,hr⟩:=af8 hc mx my
  refine k x y _ _ as cs r C mx my rx ry hr ?_
  have:ltN ds i j=r:=by
   unfold ltN
   rw [ex,ey]
   show ltb x y=r
   unfold ltb
   rw [hr]
   cases r <;> rfl
  rw [←this];exact hC
 obtain⟨d0,dr,hd⟩: ∃d0 dr,ds=d0::dr:=by
  cases ds with
  |nil=> rw [dZ]at hl;lia
  |cons a b=> exact⟨a,b,rfl⟩
 have m0:d0∈ds:=by rw [hd];exact aB
 have cmp0: ∀d∈ds,∃r,ltP d0 d=some r:=fun d hm=> af8 hc m0 hm
 have lay: ∀d∈ds,d.canLay0=true/\d.depth <=64:=fun d hm=> by
  have:=aI.mp hok d hm
  unfold okD at this
  rw [aG,decide_eq_true_eq]at this
  exact this
 have typ: ∀v∈vs,∃d cs,d∈ds/\dz s.heap v d cs:=fun v hv=> by
  obtain⟨i,hi⟩:=hJ.mp hv
  have hil:=(aE.mp hi).1
  obtain⟨x,as,ex,rx⟩:=acv (i:=i) ra (by lia)
  have:vs.getD i aZ=v:=by simp [hi]
  rw [this]at rx
  exact⟨x,as,bw ex,rx⟩
 cases d0 with
 | int i0=>
  have ai: ∀d∈ds,∃i,d=.int i:=fun d hm=> by
   obtain⟨r,hr⟩:=cmp0 d hm
   cases d <;> simp [ltP]at hr
   exact⟨_,rfl⟩
  refine kas_kind (T:=.type "int") h2 (fun v hv=> ?_) (by decide) (by decide) (ask oneType' fun x y v u as cs r C mx my rx ry hr hC=> ?_)
  ·obtain⟨d,cs,hm,rd⟩:=typ v hv
   obtain⟨i,rfl⟩:=ai d hm
   cases rd
   exact Looks.of_pure rfl
  ·obtain⟨i,rfl⟩:=ai x mx
   obtain⟨j,rfl⟩:=ai y my
   rw [z9]at hr
   cases hr
   cases rx;cases ry
   exact kat_lt_int hC
 | str i0=>
  have ai: ∀d∈ds,∃i,d=.str i:=fun d hm=> by
   obtain⟨r,hr⟩:=cmp0 d hm
   cases d <;> simp [ltP]at hr
   exact⟨_,rfl⟩
  refine kas_kind (T:=.type "str") h2 (fun v hv=> ?_) (by decide) (by decide) (ask oneType' fun x y v u as cs r C mx my rx ry hr hC=> ?_)
  ·obtain⟨d,cs,hm,rd⟩:=typ v hv
   obtain⟨i,rfl⟩:=ai d hm
   cases rd
   exact Looks.of_pure rfl
  ·obtain⟨i,rfl⟩:=ai x mx
   obtain⟨j,rfl⟩:=ai y my
   rw [agj]at hr
   cases hr
   cases rx;cases ry
   exact kas_lt_str hC
 | tuple t0=>
  have ai: ∀d∈ds,∃i,d=.tuple i:=fun d hm=> by
   obtain⟨r,hr⟩:=cmp0 d hm
   cases d <;> simp [ltP]at hr
   exact⟨_,rfl⟩
  obtain⟨κ,hκ,k⟩:=az0 (prog:=prog) (w:=w) (A:=A) (E:=fun _ _=> False) ra ai (by rw [hd];simp)
  refine k (ask κ fun x y v u as cs r C mx my rx ry hr hC=> ?_)
  obtain⟨i,rfl⟩:=ai x mx
  obtain⟨j,rfl⟩:=ai y my
  exact a1y hκ mx my rx ry (lay _ mx).1 (lay _ my).1 hu (lay _ mx).2 hr hC
 |none=> obtain⟨r,hr⟩:=cmp0 _ m0;simp [ltP]at hr
 |bool _=> obtain⟨r,hr⟩:=cmp0 _ m0;simp [ltP]at hr
 |list _=> obtain⟨r,hr⟩:=cmp0 _ m0;simp [ltP]at hr
 |dict _=> obtain⟨r,hr⟩:=cmp0 _ m0;simp [ltP]at hr
theorem asf{r:Addr}(hu:A.units+70 < cLine)(coll: ∀(R:List af -> ak -> Prop),(∀h' d' tk (vs:List af) (bs:List Addr) (ds:List ag),ds.length < 64 -> zd ds=true -> ds.all okD=true -> cY h' vs ds bs -> (∀b u,s.heap.get? b=some u -> h'.get? b=some u) ->
    (∀(h1 h2:Heap) (d2:Drawn) (tk2 e:Nat) (p:List Nat),p.Perm (bn vs.length) -> (p.map fun i=> ds.getD i .none)=aeo ds -> (∀b u,s.heap.get? b=some u -> h1.get? b=some u) -> (∀b u,h'.get? b=some u -> h1.get? b=some u) -> h2.get? h1.objs.size=some (seqObj "list" (p.map fun i=> vs.getD i aZ).toArray e) -> (∀b u,h1.get? b=some u -> h2.get? b=some u) ->
     Q (.ref h1.objs.size) {s with heap:=h2,drawn:=d2,toks:=tk2}) -> R vs {s with heap:=h',drawn:=d',toks:=tk}) -> wpAny (model prog w) A.in1 (collect (.ref r)) R E s):
  wpAny (model prog w) A (call (.builtin "sorted") [.ref r]) Q E s:=by --
 refine Calls.call_function_entry kind_sorted plain_sorted entry_sorted (args_sorted1 _) ?_;unfold cJ.«sorted»
 refine ae (m:=checkCount "sorted" 1 1 _) (ah (ae (coll _ fun h' d' tk vs bs ds h64 hc hok ra kp q=> ?_)))
 have hl:vs.length=ds.length:=ReadsAll.length ds vs bs ra
 refine ae (wpAny_newList ?_ (by rw [sizeLine_eq];lia));have g:(h'.push {cls:=.type "list",data:=.seq vs.toArray}).get? h'.objs.size=some (seqObj "list" vs.toArray 0):=aA _ rfl
 have hin1:=aft A
 have hin2:=aft A.in1
 refine ae (bC (bu slot_list_sort ⟨_,g,rfl⟩ entry_list_sort (KS.awu g (by lia) (a1n hc) (fun h2 s' k'=> a4y (ds:=ds) (bs:=bs) ?_ hc hok h2 (by lia)) fun p pm pw=> ⟨_,rfl,?_⟩) (args_list_sort _)))
 ·refine PyProof.Rows.ReadsAll.keeps (fun b o eb=> k' b o (aR (ay eb)) (aj _ eb)) ra
 ·obtain⟨e,ge⟩:=sortedHeap_at (out:=(p.map fun i=> vs.getD i aZ).toArray) g
  have es:(p.map fun i=> ds.getD i .none)=aeo ds:=by
   have e0:(bn vs.length).map (fun i=> ds.getD i .none)=ds:=by
    rw [hl]
    apply dF
    intro i
    rw [aL]
    by_cases z:i < ds.length
    ·rw [eO z,ar z]
     simp [z]
    ·rw [dv.mpr (by simpa using z),dv.mpr (by simpa using z)];rfl
   refine ahs hc ?_ ?_
   ·have:=pm.map fun i=> ds.getD i .none
    rwa [e0]at this
   ·rw [ab3,gI]
    refine nC.imp_of_mem ?_ pw
    intro a b ma mb h
    have la:a < ds.length:=by have:=eF.mp (pm.mem_iff.mp ma);lia
    have lb:b < ds.length:=by have:=eF.mp (pm.mem_iff.mp mb);lia
    unfold ltN at h
    rw [ar la,ar lb]at h
    simpa [la,lb] using h
  refine ah ⟨_,rfl,q h' _ d' tk e p pm es kp (fun b u z=> z) ge fun b u eb=> ?_⟩
  have lb:=ay eb
  rw [sortedHeap_old (aR lb) (by rw [a9];exact cD lb)]
  exact aj _ eb
end
end PF
namespace PF
open PySem PySem.Spec
open L2
variable[XW]
end PF
namespace L2
open PySem PySem.Spec PyProof.Rows
section
variable{P:aT}{w:aX}{H:Hp}{h:Heap}{a:Addr}
end
end L2
namespace PF
open PySem PySem.Spec
open L2
variable[XW]
end PF
namespace PF
open PySem PySem.Spec
open L2
open PyProof.Rows (subscriptTail subscriptTail_builtinR)
variable[XW]
end PF
namespace PF
open PySem PySem.Spec
open L2
variable[XW]
end PF
namespace PF
open PySem PySem.Spec
open L2
variable[XW]
end PF
namespace PF
open PySem PySem.Spec
open L2
variable[XW]
end PF
namespace L2
open PySem PySem.Spec PyProof.Rows
abbrev TBd:=Addr -> St -> Hp -> (St -> Hp -> Prop) -> Prop
end L2
namespace PF
open PySem PySem.Spec
open L2
variable[XW]
end PF
namespace L2
open PySem PySem.Spec PyProof.Rows
def kr(b:Bool)(h:Heap)(l:Addr)(xs:Array af):Prop:=if b=true then h.IsList l xs else h.IsTuple l xs
def v9(b:Bool)(h:Heap)(i l:Addr)(k:Nat):Prop:=if b=true then h.IsListIter i l k else h.IsTupleIter i l k
theorem kr.to{h':Heap}{xs:Array af}(x:kr b h l xs)(k: ∀o,h.get? l=some o -> h'.get? l=some o):kr b h' l xs:=by
 cases b with
 |true=> obtain⟨o,e,r⟩:=x;exact⟨o,k o e,r⟩
 |false=> obtain⟨o,e,r⟩:=x;exact⟨o,k o e,r⟩
theorem v9.to{h':Heap}{i:Addr}(x:v9 b h i l n)(k: ∀o,h.get? i=some o -> h'.get? i=some o):v9 b h' i l n:=by
 cases b with
 |true=> obtain⟨o,e,r⟩:=x;exact⟨o,k o e,r⟩
 |false=> obtain⟨o,e,r⟩:=x;exact⟨o,k o e,r⟩
theorem v9.obj{i:Addr}(x:v9 b h i l n): ∃o,h.get? i=some o/\ ∃vs,o.data=.fields vs:=by
 cases b with
 |true=> obtain⟨o,e,_,r⟩:=x;exact⟨o,e,_,r⟩
 |false=> obtain⟨o,e,_,r⟩:=x;exact⟨o,e,_,r⟩
theorem kr.lt{xs:Array af}(x:kr b h l xs):l < h.objs.size:=by
 cases b with
 |true=> obtain⟨o,e,r⟩:=x;exact ay e
 |false=> obtain⟨o,e,r⟩:=x;exact ay e
section
variable{P:aT}{w:aX}{A:bj}{E:af -> ak -> Prop}{s:ak}
open PySem.F in
theorem ab2{i:Addr}{xs:Array af}{x:af}(hi:v9 b s.heap i l k)(hl:kr b s.heap l xs)(hx:xs[k]?=some x)(hQ: ∀h',v9 b h' i l (k+1) -> bJ i s.heap h' -> Q x {s with heap:=h'}):wpAny (model P w) A (cU (.ref i)) Q E s:=by
 cases b with
 |true=> exact wpAny_nextOf_list_item hi hl hx hQ
 |false=>
  have hi:s.heap.IsTupleIter i l k:=hi
  have hl:s.heap.IsTuple l xs:=hl
  obtain⟨o,ho,hc,hd⟩:=id hi
  (obtain⟨ol,hol,_,nl,hdl⟩:=hl)
  refine ae (br (name:=bg "__next__") hi.typeIs slot_tuple_iterator_next (bu slot_tuple_iterator_next hi.typeIs entry_tuple_iterator_next ?_ (args_tuple_iterator_next_1 _)))
  wp_walk using a7 ho hd (x:=.ref l) rfl,a7 ho hd (x:=.int k 0) rfl,dm hol hdl
  (simp only [dh,hx])
  refine ae (cw ho hd (by simp) (ah ⟨_,rfl,ah (hQ _ ?_ (.update ..))⟩))
  exact⟨_,bK _ ho (hU (eY hd _)),by rw [Obj.cls_mapFields];exact hc,by rw [eY hd];simp [rawInt]⟩
open PySem.F in
theorem aer{i:Addr}{xs:Array af}(hh:A.handled=none)(hi:v9 b s.heap i l k)(hl:kr b s.heap l xs)(hx:xs[k]?=none)(hE: ∀h' e,fj i s.heap h' -> (∃o,h'.get? e=some o/\o.cls=.type "StopIteration") -> E (.ref e) {s with heap:=h'}):wpAny (model P w) A (cU (.ref i)) Q E s:=by
 cases b with
 |true=> exact wpAny_nextOf_list_end hh hi hl hx hE
 |false=>
  have hi:s.heap.IsTupleIter i l k:=hi
  have hl:s.heap.IsTuple l xs:=hl
  obtain⟨o,ho,hc,hd⟩:=id hi
  (obtain⟨ol,hol,_,nl,hdl⟩:=hl)
  refine ae (br (name:=bg "__next__") hi.typeIs slot_tuple_iterator_next (bu slot_tuple_iterator_next hi.typeIs entry_tuple_iterator_next ?_ (args_tuple_iterator_next_1 _)))
  (have hh1:A.in1.handled=none:=hh)
  wp_walk using a7 ho hd (x:=.ref l) rfl,a7 ho hd (x:=.int k 0) rfl,dm hol hdl
  (simp only [dh,hx])
  (refine ae (cB (ae (cw ho hd (by simp) ?_))))
  wp_walk
  simp only [raiseNew]
  (refine ae (ms ?_))
  rw [hh1]
  refine ae (ah (np (hE _ _ (((b8 ..).extBut.push _).push _) ?_)))
  exact⟨_,aA _ rfl,rfl⟩
end
section
variable{P:aT}{w:aX}{A:bj}{E:af -> ak -> Prop}{s:ak}
structure ZAt (b1 b2:Bool) (l1 l2 z TI TO i1 i2:Addr) (f0:af) (k1 k2:Nat) (h:Heap):Prop where
 ap:ZipApart z TI TO i1 i2 l1 l2
 oz:iN h z TI TO f0
 oi:gk h TI (.ref i1) (.ref i2)
 oo: ∃a b,gk h TO a b
 c1:v9 b1 h i1 l1 k1
 c2:v9 b2 h i2 l2 k2
theorem a53{b1 b2:Bool}{z TI TO i1 i2 l1 l2:Addr}{k1 k2:Nat}{xs ys:Array af}{x y:af}(Z:ZAt b1 b2 l1 l2 z TI TO i1 i2 .none k1 k2 s.heap)(hl1:kr b1 s.heap l1 xs)(hl2:kr b2 s.heap l2 ys)(hx:xs[k1]?=some x)(hy:ys[k2]?=some y)(hQ: ∀h',ZAt b1 b2 l1 l2 z TI TO i1 i2 (rawInt s.heap.objs.size) (k1+1) (k2+1) h' -> gk h' s.heap.objs.size x y ->
   (∀c o,c≠z -> c≠TO -> c≠i1 -> c≠i2 -> s.heap.get? c=some o -> h'.get? c=some o) -> Q (.ref s.heap.objs.size) {s with heap:=h'}):
  wpAny (model P w) A (cJ.«zip.__next__» ⟨[.ref z],[]⟩) (fun fin s'=> ∃v,fin=.done (.ret v)/\Q v s') E s:=by
 obtain⟨ap,oz,oi,⟨a,b,oo⟩,c1,c2⟩:=Z
 (show wpAny _ _ (field (.ref z) 2 >>=_) _ _ _);refine ae (a7 oz rfl (x:=.bool false) rfl ?_)
 (show wpAny _ _ (field (.ref z) 3 >>=_) _ _ _);refine ae (a7 oz rfl (x:=.ref TI) rfl (ae (dm oi rfl ?_)))
 (show wpAny _ _ (d5 (.ref z)>>=_) _ _ _);refine ae (ae (a7 oz rfl (x:=.none) rfl (ah ?_)))
 simp only [if_true]
 refine ae (cB (ae (a7 oz rfl (x:=.ref TO) rfl (ae (ci oz (by simp) fun g1 z1 e1=> ae ?_)))))
 have z1:iN g1 z TI TO .ellipsis:=z1
 (simp only [List.zipIdx_cons,List.zipIdx_nil,kU,List.forIn_nil])
 (refine ae (ae (gS ?_)))
 (show wpAny _ _ (cU (.ref i1)>>=_) _ _ _);refine ae (ab2 (c1.to fun o=> e1.extBut _ _ ap.i1z) (hl1.to fun o=> e1.extBut _ _ ap.l1z) hx fun g2 c1' e2=> ah ?_)
 have o2:gk g2 TO a b:=e2.extBut _ _ ap.TOi1 (e1.extBut _ _ ap.TOz oo)
 refine ae (dm o2 rfl (ae (ij o2 fun g3 o3 e3=> ae (iM (ah (ae (ae (gS ?_))))))))
 have o3:gk g3 TO x b:=o3
 have k3: ∀c o,c≠z -> c≠i1 -> c≠TO -> s.heap.get? c=some o -> g3.get? c=some o:=fun c o a1 a2 a3 e=> e3.extBut _ _ a3 (e2.extBut _ _ a2 (e1.extBut _ _ a1 e))
 (show wpAny _ _ (cU (.ref i2)>>=_) _ _ _);refine ae (ab2 (c2.to fun o=> k3 _ o ap.i2z ap.i12.symm ap.TOi2.symm) (hl2.to fun o=> k3 _ o ap.l2z ap.l2i1 ap.l2TO) hy fun g4 c2' e4=> ah ?_)
 have o4:gk g4 TO x b:=e4.extBut _ _ ap.TOi2 o3
 refine ae (dm o4 rfl (ae (ij o4 fun g5 o5 e5=> ae (iM (ah (ah ?_))))))
 have o5:gk g5 TO x y:=o5
 refine ae (dm o5 rfl (ae (lL ?_)))
 have sz:g5.objs.size=s.heap.objs.size:=by rw [e5.1,e4.1,e3.1,e2.1,e1.1]
 have z5:iN g5 z TI TO .ellipsis:=e5.extBut _ _ ap.TOz.symm (e4.extBut _ _ ap.i2z.symm (e3.extBut _ _ ap.TOz.symm (e2.extBut _ _ ap.i1z.symm z1)))
 have k5: ∀c o,c≠z -> c≠TO -> c≠i1 -> c≠i2 -> s.heap.get? c=some o -> g5.get? c=some o:=fun c o a1 a2 a3 a4 e=> e5.extBut _ _ a2 (e4.extBut _ _ a4 (k3 c o a1 a3 a2 e))
 have c15:v9 b1 g5 i1 l1 (k1+1):=c1'.to fun o e=> e5.extBut _ _ ap.TOi1.symm (e4.extBut _ _ ap.i12 (e3.extBut _ _ ap.TOi1.symm e))
 have c25:v9 b2 g5 i2 l2 (k2+1):=c2'.to fun o e=> e5.extBut _ _ ap.TOi2.symm e
 (show wpAny _ _ (gl (.ref z) (.ref g5.objs.size)>>=_) _ _ _);refine ae ?_
 have z6:iN (g5.push {cls:=.type "tuple",data:=.seq #[x,y]}) z TI TO .ellipsis:=aj _ z5
 refine ae (ci z6 (by simp) fun g7 z7 e7=> ?_)
 have z7:iN g7 z TI TO (rawInt g5.objs.size):=z7
 refine ci z7 (by simp) fun g8 z8 e8=> ?_
 have z8:iN g8 z TI TO (rawInt g5.objs.size):=z8
 have up: ∀c o,c≠z -> g5.get? c=some o -> g8.get? c=some o:=fun c o a1 e=> e8.extBut _ _ a1 (e7.extBut _ _ a1 (aj _ e))
 have nz:g5.objs.size≠z:=dR (ay z5)
 have t8:gk g8 g5.objs.size x y:=e8.extBut _ _ nz (e7.extBut _ _ nz (aA _ rfl))
 rw [sz]at z8 t8
 (refine ah ⟨_,rfl,?_⟩)
 show Q (.ref g5.objs.size) _
 rw [sz]
 exact hQ g8 ⟨ap,z8,up _ _ ap.TIz (k5 _ _ ap.TIz ap.TITO ap.TIi1 ap.TIi2 oi),⟨_,_,up _ _ ap.TOz o5⟩,c15.to fun o=> up _ o ap.i1z,c25.to fun o=> up _ o ap.i2z⟩ t8 fun c o a1 a2 a3 a4 e=> up c o a1 (k5 c o a1 a2 a3 a4 e)
theorem a2k{b1 b2:Bool}{z TI TO i1 i2 l1 l2:Addr}{k1 k2:Nat}{xs ys:Array af}{Q:Fin -> ak -> Prop}(hh:A.handled=none)(Z:ZAt b1 b2 l1 l2 z TI TO i1 i2 .none k1 k2 s.heap)
  (hl1:kr b1 s.heap l1 xs) (hl2:kr b2 s.heap l2 ys) (hend:xs[k1]?=none\/ys[k2]?=none)
  (hE: ∀h' e,(∀c o,c≠z -> c≠TO -> c≠i1 -> c≠i2 -> s.heap.get? c=some o -> h'.get? c=some o) -> (∃o,h'.get? e=some o/\o.cls=.type "StopIteration") -> E (.ref e) {s with heap:=h'}):
  wpAny (model P w) A (cJ.«zip.__next__» ⟨[.ref z],[]⟩) Q E s:=by
 obtain⟨ap,oz,oi,⟨a,b,oo⟩,c1,c2⟩:=Z
 (show wpAny _ _ (field (.ref z) 2 >>=_) _ _ _);refine ae (a7 oz rfl (x:=.bool false) rfl ?_)
 (show wpAny _ _ (field (.ref z) 3 >>=_) _ _ _);refine ae (a7 oz rfl (x:=.ref TI) rfl (ae (dm oi rfl ?_)))
 (show wpAny _ _ (d5 (.ref z)>>=_) _ _ _);refine ae (ae (a7 oz rfl (x:=.none) rfl (ah ?_)))
 simp only [if_true]
 refine ae (cB (ae (a7 oz rfl (x:=.ref TO) rfl (ae (ci oz (by simp) fun g1 z1 e1=> ae ?_)))))
 have z1:iN g1 z TI TO .ellipsis:=z1
 have stop: ∀(g:Heap) (o:Obj) (e:Addr),iN g z TI TO .ellipsis -> g.get? e=some o -> o.cls=.type "StopIteration" -> e≠z:=fun g o e hz ho hc q=> by
  subst q;rw [hz]at ho;cases ho;simp at hc
 (simp only [List.zipIdx_cons,List.zipIdx_nil,kU,List.forIn_nil])
 (refine ae (ae (gS ?_)))
 (show wpAny _ _ (cU (.ref i1)>>=_) _ _ _);cases hx:xs[k1]? with
 |none=>
  refine ae (aer hh (c1.to fun o=> e1.extBut _ _ ap.i1z) (hl1.to fun o=> e1.extBut _ _ ap.l1z) hx fun g2 e e2 ⟨oe,he,ce⟩=> ?_)
  have z2:iN g2 z TI TO .ellipsis:=e2 _ _ ap.i1z.symm z1
  exact ci z2 (by simp) fun g3 _ e3=> hE g3 e (fun c o a1 _ a3 _ q=> e3.extBut _ _ a1 (e2 _ _ a3 (e1.extBut _ _ a1 q))) ⟨oe,e3.extBut _ _ (stop _ _ _ z2 he ce) he,ce⟩
 |some x=>
  have hy:ys[k2]?=none:=hend.elim (fun h=> by rw [hx]at h;cases h) id
  refine ae (ab2 (c1.to fun o=> e1.extBut _ _ ap.i1z) (hl1.to fun o=> e1.extBut _ _ ap.l1z) hx fun g2 c1' e2=> ah ?_)
  have o2:gk g2 TO a b:=e2.extBut _ _ ap.TOi1 (e1.extBut _ _ ap.TOz oo)
  refine ae (dm o2 rfl (ae (ij o2 fun g3 o3 e3=> ae (iM (ah (ae (ae (gS ?_))))))))
  have k3: ∀c o,c≠z -> c≠i1 -> c≠TO -> s.heap.get? c=some o -> g3.get? c=some o:=fun c o a1 a2 a3 e=> e3.extBut _ _ a3 (e2.extBut _ _ a2 (e1.extBut _ _ a1 e))
  (show wpAny _ _ (cU (.ref i2)>>=_) _ _ _);refine ae (aer hh (c2.to fun o=> k3 _ o ap.i2z ap.i12.symm ap.TOi2.symm) (hl2.to fun o=> k3 _ o ap.l2z ap.l2i1 ap.l2TO) hy fun g4 e e4 ⟨oe,he,ce⟩=> ?_)
  have z4:iN g4 z TI TO .ellipsis:=e4 _ _ ap.i2z.symm (e3.extBut _ _ ap.TOz.symm (e2.extBut _ _ ap.i1z.symm z1))
  exact ci z4 (by simp) fun g5 _ e5=> hE g5 e (fun c o a1 a2 a3 a4 q=> e5.extBut _ _ a1 (e4 _ _ a4 (k3 c o a1 a3 a2 q))) ⟨oe,e5.extBut _ _ (stop _ _ _ z4 he ce) he,ce⟩
theorem a2y{b1 b2:Bool}{z TI TO i1 i2 l1 l2:Addr}{k1 k2:Nat}{xs ys:Array af}{x y:af}{Q:Option af -> ak -> Prop}(Z:ZAt b1 b2 l1 l2 z TI TO i1 i2 .none k1 k2 s.heap)
  (hl1:kr b1 s.heap l1 xs) (hl2:kr b2 s.heap l2 ys) (hx:xs[k1]?=some x) (hy:ys[k2]?=some y)
  (hQ: ∀h',ZAt b1 b2 l1 l2 z TI TO i1 i2 (rawInt s.heap.objs.size) (k1+1) (k2+1) h' -> gk h' s.heap.objs.size x y ->
   (∀c o,c≠z -> c≠TO -> c≠i1 -> c≠i2 -> s.heap.get? c=some o -> h'.get? c=some o) -> Q (some (.ref s.heap.objs.size)) {s with heap:=h'}):
  wpAny (model P w) A (pyNext (.ref z)) Q E s:=
 have hT:s.TypeIs (.ref z) "zip":=⟨_,Z.oz,rfl⟩
 ae (d7 (br (name:=bg "__next__") hT ik (bu ik hT F.entry_zip_next (a53 Z hl1 hl2 hx hy fun h' a1 a2 a3=> ah (hQ h' a1 a2 a3)) (F.args_zip_next_1 _))))
theorem aw6{b1 b2:Bool}{z TI TO i1 i2 l1 l2:Addr}{k1 k2:Nat}{xs ys:Array af}{Q:Option af -> ak -> Prop}(hh:A.handled=none)(Z:ZAt b1 b2 l1 l2 z TI TO i1 i2 .none k1 k2 s.heap)
  (hl1:kr b1 s.heap l1 xs) (hl2:kr b2 s.heap l2 ys) (hend:xs[k1]?=none\/ys[k2]?=none)
  (hQ: ∀h',(∀c o,c≠z -> c≠TO -> c≠i1 -> c≠i2 -> s.heap.get? c=some o -> h'.get? c=some o) -> Q none {s with heap:=h'}):wpAny (model P w) A (pyNext (.ref z)) Q E s:=
 have hT:s.TypeIs (.ref z) "zip":=⟨_,Z.oz,rfl⟩
 ae (d7 (br (name:=bg "__next__") hT ik (bu ik hT F.entry_zip_next (a2k hh Z hl1 hl2 hend fun h' e hk ⟨o,ho,hc⟩=>
  ae (eG (T:="StopIteration") (b:=true) ⟨o,ho,hc⟩ iG (ah (hQ _ hk)))) (F.args_zip_next_1 _))))
end
def SqB(K:am)(b:Bool)(H:Hp)(l:Addr)(xs:List V):Prop:=if b=true then SqL K H l xs else SqT K H l xs
theorem Inv.seqB{s:ak}{xs:List V}(I:Inv X pins σ H s)(q:SqB X.K b H l xs): ∃its,jm xs its/\kr b s.heap l its.toArray:=by
 cases b with
 |true=> obtain⟨its,rv,p,_⟩:=I.list q;exact⟨its,rv,p.isList⟩
 |false=> obtain⟨its,rv,p,_⟩:=I.tuple q;exact⟨its,rv,p⟩
noncomputable def a4v(K:am)(b1 b2:Bool)(l1 l2:Addr):It:=
 ⟨fun i H=> ∃xs ys x y,SqB K b1 H l1 xs/\SqB K b2 H l2 ys/\xs[i]?=some x/\ys[i]?=some y,
   fun i H v H'=> ∃T,v=.ref T/\ ∀xs ys,SqB K b1 H l1 xs -> SqB K b2 H l2 ys -> ∃x y,xs[i]?=some x/\ys[i]?=some y/\New H T (.tup [x,y]) H',
   fun i H=> ∃xs ys,SqB K b1 H l1 xs/\SqB K b2 H l2 ys/\(xs.length <=i\/ys.length <=i)⟩
theorem Inv.seqB_inj{s:ak}{xs ys:List V}(I:Inv X pins σ H s)(p:SqB X.K b H l xs)(q:SqB X.K b H l ys):xs=ys:=by
 cases b with
 |true=> exact I.list_inj p q
 |false=> exact I.tuple_inj p q
theorem asu{x1:Nat}{b1 b2:Bool}(l1 l2 z TI TO i1 i2:Addr):Turn P w K (.Tuple es x1 pos) (a4v K b1 b2 l1 l2) [z,TI,TO,i1,i2] z (fun i h=> ZAt b1 b2 l1 l2 z TI TO i1 i2 .none i i h) where
 mem:=by simp
 obj:=fun i h ⟨_,hz,hTI,⟨a,c,hTO⟩,q1,q2⟩ b hb=> by
  obtain⟨o1,e1,v1,d1⟩:=q1.obj
  obtain⟨o2,e2,v2,d2⟩:=q2.obj
  (simp only [aw,bc,or_false]at hb)
  rcases hb with rfl|rfl|rfl|rfl|rfl
  ·exact⟨_,hz,fun v y=> by cases y⟩
  ·exact⟨_,hTI,fun v y=> by cases y⟩
  ·exact⟨_,hTO,fun v y=> by cases y⟩
  ·exact⟨_,e1,fun v y=> by rw [d1]at y;cases y⟩
  ·exact⟨_,e2,fun v y=> by rw [d2]at y;cases y⟩
 keep:=fun i h h' ⟨D,hz,hTI,⟨a,c,hTO⟩,q1,q2⟩ k=>
  ⟨D,k z (by simp) _ hz,k TI (by simp) _ hTI,⟨a,c,k TO (by simp) _ hTO⟩,q1.to fun o e=> k i1 (by simp) o e,q2.to fun o e=> k i2 (by simp) o e⟩
 item:=by
  intro X hP hw hK hc i pins s σ H E I hf st hg
  subst hP hw hK
  obtain⟨xs,ys,x,y,q1,q2,hx,hy⟩:=hg
  obtain⟨its1,rv1,p1⟩:=I.seqB q1
  obtain⟨its2,rv2,p2⟩:=I.seqB q2
  obtain⟨u1,hu1,ru1⟩:=rv1.get hx
  obtain⟨u2,hu2,ru2⟩:=rv2.get hy
  refine a2y st p1 p2 (x:=u1) (y:=u2) (by simpa using hu1) (by simpa using hu2) fun h' Z a5 k=> ?_
  refine⟨_,rfl,wpAny_letOwnedTupleGo_zip (s:={s with heap:=h'}) Z.oz fun h2' hz' sb=> ?_⟩
  have lt: ∀b∈ [z,TI,TO,i1,i2],b < s.heap.objs.size:=fun b hb=> by
   obtain⟨_,hz,hTI,⟨_,_,hTO⟩,q1,q2⟩:=st
   obtain⟨o1,e1,_⟩:=q1.obj
   obtain⟨o2,e2,_⟩:=q2.obj
   (simp only [aw,bc,or_false]at hb)
   rcases hb with rfl|rfl|rfl|rfl|rfl
   ·exact ay hz
   ·exact ay hTI
   ·exact ay hTO
   ·exact ay e1
   ·exact ay e2
  have I1:Inv X pins σ (upd H s.heap.objs.size (.tup [x,y])) {s with heap:=s.heap.push {cls:=.type "tuple",data:=.seq #[u1,u2]},toks:=s.toks}:=
   I.laid (fun b u e=> aj _ e) (au _) ⟨by show 2 <=sizeLine;decide,[u1,u2],.cons ru1 (.cons ru2 .nil),⟨_,aA _ rfl⟩⟩
  have nT: ∀b∈ [z,TI,TO,i1,i2],upd H s.heap.objs.size (.tup [x,y]) b=none:=fun b hb=> by
   rw [ko (aR (lt b hb))];exact (hf b hb).1
  have D:=Z.ap
  have I2:=I1.turnedL (h':=h2') (t':=s.toks) (ch:=[z,TI,TO,i1,i2]) (fun b o hb e=> by
   have hbz:b≠z:=fun y=> hb (by simp [y])
   rw [sb.2 b hbz]
   by_cases hT:b=s.heap.objs.size
   ·subst hT
    rw [aA _ rfl]at e
    cases e
    exact a5
   ·rw [dH _ _ _ hT]at e
    exact k b o hbz (fun y=> hb (by simp [y])) (fun y=> hb (by simp [y])) (fun y=> hb (by simp [y])) e) fun b hb=> ⟨nT b hb,(hf b hb).2⟩
  obtain⟨_,_,oi,⟨_,_,oo⟩,c1,c2⟩:=Z
  refine⟨.ref s.heap.objs.size,_,I2,rfl,⟨_,rfl,fun xs' ys' q1' q2'=> ?_⟩,⟨D,hz',sb.extBut _ _ D.TIz oi,⟨_,_,sb.extBut _ _ D.TOz oo⟩,c1.to fun o=> sb.extBut _ _ D.i1z,c2.to fun o=> sb.extBut _ _ D.i2z⟩,nT⟩
  rw [I.seqB_inj q1' q1,I.seqB_inj q2' q2]
  exact⟨x,y,hx,hy,I.fresh,rfl⟩
 done:=by
  intro X hP hw hK hc i pins s σ H E I hf st hg
  subst hP hw hK
  obtain⟨xs,ys,q1,q2,hx⟩:=hg
  obtain⟨its1,rv1,p1⟩:=I.seqB q1
  obtain⟨its2,rv2,p2⟩:=I.seqB q2
  have l1':=rv1.length
  have l2':=rv2.length
  refine aw6 (I.ok.hd hc) st p1 p2 ?_ fun h' k=> ⟨rfl,I.turnedL (t':=s.toks) (ch:=[z,TI,TO,i1,i2]) (fun b o hb e=> k b o (fun y=> hb (by simp [y])) (fun y=> hb (by simp [y])) (fun y=> hb (by simp [y])) (fun y=> hb (by simp [y])) e) hf⟩
  rcases hx with hx|hx
  ·exact .inl (by simp;lia)
  ·exact .inr (by simp;lia)
 self:=fun _ _ _ _ _ st h=> wpAny_pyIter_zip st.oz h
noncomputable def aep(b:Bool):String:=if b=true then "list_iterator" else "tuple_iterator"
section
variable{P:aT}{w:aX}{A:bj}{E:af -> ak -> Prop}{s:ak}
theorem ain{xs:Array af}(h:kr b s.heap l xs)(hQ:Q (.ref s.heap.objs.size) {s with heap:=s.heap.push {cls:=.type (aep b),data:=.fields #[.ref l,.int 0 0]}}):wpAny (model P w) A (pyIter (.ref l)) Q E s:=by
 cases b with
 |true=> exact eg h hQ
 |false=> exact iV h hQ
theorem axo{i:Addr}(e:h.get? i=some {cls:=.type (aep b),data:=.fields #[.ref l,.int 0 0]}):v9 b h i l 0:=by
 cases b with
 |true=> exact⟨_,e,rfl,rfl⟩
 |false=> exact⟨_,e,rfl,rfl⟩
def zH(h:Heap)(b1 b2:Bool)(l1 l2:Addr):Heap:=
 ((((h.push {cls:=.type (aep b1),data:=.fields #[.ref l1,.int 0 0]}).push {cls:=.type (aep b2),data:=.fields #[.ref l2,.int 0 0]}).push {cls:=.type "tuple",data:=.seq #[.ref h.objs.size,.ref (h.objs.size+1)]}).push {cls:=.type "tuple",data:=.seq #[.none,.none]}).push
  {cls:=.type "zip",data:=.fields #[.none,.bool false,.bool false,.ref (h.objs.size+2),.ref (h.objs.size+3)]}
theorem ars(b1 b2:Bool)(l1 l2:Addr)(xs ys:Array af):
  Meets (cJ.«zip.__new__» ⟨[.type "zip",.ref l1,.ref l2],[]⟩) (fun _ R s=> kr b1 s.heap l1 xs/\kr b2 s.heap l2 ys/\R (.ok (.ret (.ref (s.heap.objs.size+4)))) {s with heap:=zH s.heap b1 b2 l1 l2}):=
 .of_wp fun prog w A R s h=> by
  obtain⟨hp,g,d,tk,os⟩:=s;obtain⟨h1,h2,h⟩:=h
  have hsub:=sub_zip
  have L1:kr b1 (nu ⟨hp,g,d,tk,os⟩) l1 xs:=h1
  have L2:kr b2 (nu ⟨hp.push {cls:=.type (aep b1),data:=.fields #[.ref l1,.int 0 0]},g,d,tk,os⟩) l2 ys:=h2.to fun o=> aj _
  wp_walk using ain L1,ain L2
  refine⟨_,rfl,?_⟩
  simp only [a9]
  exact h
theorem asr{b1 b2:Bool}{l1 l2:Addr}{xs ys:Array af}(h1:kr b1 s.heap l1 xs)(h2:kr b2 s.heap l2 ys)(h: ∀h',ZAt b1 b2 l1 l2 (s.heap.objs.size+4) (s.heap.objs.size+2) (s.heap.objs.size+3) s.heap.objs.size (s.heap.objs.size+1) .none 0 0 h' -> (∀c o,s.heap.get? c=some o -> h'.get? c=some o) -> Q (.ref (s.heap.objs.size+4)) {s with heap:=h'}):
  wpAny (model P w) A (call (.type "zip") [.ref l1,.ref l2]) Q E s:=by
 refine callType_new F.called_zip (by decide) (F.typeCall_zip_2 _ _) (F.newCall_zip_2 _ _) (fun obj=> F.args_object_init_3 obj _ _) F.entry_zip_new (ars b1 b2 l1 l2 xs ys) ⟨h1,h2,?_⟩
 have q1:=h1.lt
 have q2:=h2.lt
 have up: ∀(g:Heap) (o:Obj) (n:Nat),n=g.objs.size -> o.isFreed=false -> (g.push o).get? n=some o:=fun g o n e hf=> by subst e;exact aA _ hf
 have sz: ∀(g:Heap) (o:Obj) (n:Nat),g.objs.size=n -> (g.push o).objs.size=n+1:=fun g o n e=> by rw [a9,e]
 have g5:iN (zH s.heap b1 b2 l1 l2) (s.heap.objs.size+4) (s.heap.objs.size+2) (s.heap.objs.size+3) .none:=up _ _ _ (by simp only [a9]) rfl
 have g4:gk (zH s.heap b1 b2 l1 l2) (s.heap.objs.size+3) .none .none:=aj _ (up _ _ _ (by simp only [a9]) rfl)
 have g3:gk (zH s.heap b1 b2 l1 l2) (s.heap.objs.size+2) (.ref s.heap.objs.size) (.ref (s.heap.objs.size+1)):=aj _ (aj _ (up _ _ _ (by simp only [a9]) rfl))
 have g2:(zH s.heap b1 b2 l1 l2).get? (s.heap.objs.size+1)=some {cls:=.type (aep b2),data:=.fields #[.ref l2,.int 0 0]}:=aj _ (aj _ (aj _ (up _ _ _ (by simp only [a9]) rfl)))
 have g1:(zH s.heap b1 b2 l1 l2).get? s.heap.objs.size=some {cls:=.type (aep b1),data:=.fields #[.ref l1,.int 0 0]}:=aj _ (aj _ (aj _ (aj _ (up _ _ _ rfl rfl))))
 refine⟨⟨_,g5,rfl⟩,h _ ⟨?_,g5,g3,⟨_,_,g4⟩,axo g1,axo g2⟩ fun c o x=> aj _ (aj _ (aj _ (aj _ (aj _ x))))⟩
 constructor <;> (unfold Addr at*;lia)
end
def a7u(K:am)(ta:TA):TI:=fun σ H R=> ta σ H fun vs H1=> ∃l1 l2 xs ys b1 b2,vs=[.ref l1,.ref l2]/\SqB K b1 H1 l1 xs/\SqB K b2 H1 l2 ys/\R (a4v K b1 b2 l1 l2) H1
theorem a2t{x1:Nat}{a b:Expr}{ta:TA}{p:Pos}(hg:Gl X "zip")(hm:X.mg "zip"=none)(ha:PA X [a,b] ta)(hs:starEach [a,b] X.env=[(false,eval a X.env),(false,eval b X.env)]:=by rfl)(hs2:starEach [b] X.env=[(false,eval b X.env)]:=by rfl):
  PI X (.Tuple es x1 tp) (.Call (.Name "zip" p) [a,b] [] pos) (a7u X.K ta):=by
 intro pins s σ H R I h
 refine Call_ (aco I hg hm a7w (dS (thn (ha pos pins s σ H _ I h) fun us s1 ⟨vs,H1,I1,r1,q1⟩=> ?_) (by rw [hs,hs2]) (by rw [hs2];rfl)))
 obtain⟨l1,l2,xs,ys,b1,b2,e,q1,q2,q⟩:=q1
 subst e
 cases r1 with
 | cons r rr=>
  cases rr with
  | cons r' rr=>
   cases rr
   cases r
   cases r'
   obtain⟨its1,rv1,p1⟩:=I1.seqB q1
   obtain⟨its2,rv2,p2⟩:=I1.seqB q2
   refine asr p1 p2 fun h' Z k=> wpAny_pyIter_zip (s:={s1 with heap:=h'}) Z.oz ?_
   refine⟨s1.heap.objs.size+4,_,_,_,H1,rfl,I1.kept (t':=s1.toks) k,asu l1 l2 _ _ _ _ _,Z,fun b hb=> ?_,q⟩
   have hb':s1.heap.objs.size <=b:=by
    (simp only [aw,bc,or_false]at hb)
    rcases hb with rfl|rfl|rfl|rfl|rfl <;> (unfold Addr at*;lia)
   exact I1.fpOk hb' (I1.hok.fresh hb')
end L2
namespace PF
open PySem PySem.Spec
open L2
variable[XW]
noncomputable def sqD:D -> Option (Bool×List ag)
 |.lst xs=> some (true,xs)
 |.tup xs=> some (false,xs)
 |_=> none
def alm(ds:List D)(s:S):R Wk:=match ds with
 |[a,b]=> match sqD a,sqD b with
  |some (_,xs),some (_,ys)=>.ok ((xs.zip ys).map fun p=> D.tup [p.1,p.2],none) s
  |_,_=>.bad
 |_=>.bad
def aql(f:FA):FI:=fun ρ s=> (f ρ s).bind alm
theorem ajk{d:D}(r:RD K as H v d)(e:sqD d=some (b,xs)): ∃l vs,v=.ref l/\(∀as2 H2,Step0 as H as2 H2 -> SqB K b H2 l vs)/\TDs as H vs xs:=by
 cases d with
 | da d=>
  cases d with
  |list zs=>
   cases e
   obtain⟨l,vs,rfl,n,q,t⟩:=r.lst_inv
   exact⟨l,vs,rfl,fun as2 H2 st=> SqL.of (st.keep _ _ n q),t⟩
  | tuple zs=>
   cases e
   cases r with
   |da t=> cases t with
    |tup n q t=> exact⟨_,_,rfl,fun as2 H2 st=> SqT.of (st.keep _ _ n q),t⟩
  |_=> cases e
 |_=> cases e
theorem a1f{x1:Nat}{a b:Expr}{f:FA}{p:Pos}(hm:X.mg "zip"=none)(h:RA X [a,b] f)(hg:Gl X "zip":=by rfl)(hs:starEach [a,b] X.env=[(false,eval a X.env),(false,eval b X.env)]:=by rfl)(hs2:starEach [b] X.env=[(false,eval b X.env)]:=by rfl):
  RI X (.Tuple es x1 tp) (.Call (.Name "zip" p) [a,b] [] pos) (aql f):=by
 obtain⟨t,pa,ra⟩:=h.ex
 refine⟨_,a2t hg hm pa hs hs2,fun as σ H ρ s Q rl en h=> ?_⟩
 refine ra as σ H ρ s _ rl en (Dn.bind h fun ds s1 as1 H1 vs st1 rl1 r1 h1=> ?_)
 unfold alm at h1
 split at h1
 ·split at h1
  ·rename_i da db _ xd bx _ yd ea eb
   obtain⟨v,w,rfl,rv,rw⟩:=r1.two
   obtain⟨l1,xs,rfl,k1,t1⟩:=ajk rv ea
   obtain⟨l2,ys,rfl,k2,t2⟩:=ajk rw eb
   refine⟨l1,l2,xs,ys,_,_,rfl,k1 as1 H1 (Step.refl _ _).toStep0,k2 as1 H1 (Step.refl _ _).toStep0,Dn.now (Q:=Q) h1 rl1 ?_⟩
   intro as2 H2 s2 st2 rl2 _ i
   have sq1:=k1 as2 H2 st2
   have sq2:=k2 as2 H2 st2
   have u1:=t1.mono0 st2
   have u2:=t2.mono0 st2
   refine⟨fun hl=> ⟨xs,ys,sq1,sq2,?_⟩,fun d hd=> ?_⟩
   ·simp only [ao,List.length_zip]at hl
    rw [u1.length,u2.length]
    lia
   ·rw [aL]at hd
    cases q:(List.zip _ _)[i]? with
    |none=> rw [q]at hd;cases hd
    |some pr=>
     rw [q]at hd
     cases hd
     rw [List.getElem?_zip_eq_some]at q
     obtain⟨x,hx,rx⟩:=u1.get q.1
     obtain⟨y,hy,ry⟩:=u2.get q.2
     refine⟨⟨xs,ys,x,y,sq1,sq2,hx,hy⟩,fun vv H3 hv=> ?_⟩
     obtain⟨T,rfl,hT⟩:=hv
     obtain⟨x',y',hx',hy',nw⟩:=hT xs ys sq1 sq2
     rw [hx]at hx';cases hx'
     rw [hy]at hy';cases hy'
     exact⟨j6 nw,rl2.new nw,.da (.tup (fun z=> rl2.has z nw.no) nw.at (.cons (rx.mono (j6 nw)) (.cons (ry.mono (j6 nw)) .nil)))⟩
  ·exact h1.elim
 ·exact h1.elim
end PF
namespace PF
open PySem PySem.Spec PyProof.Rows PyProof.Rows.KTD
open L2
variable[XW]
end PF
namespace PF
open PySem PySem.Spec
open L2
variable[XW]
end PF
namespace L2
open PySem PySem.Spec PyProof.Rows
theorem aqk:fillsNumberSlot (.type "tuple") "mul"=pure false:=PySem.fillsNumberSlot_seq (id:="tuple.__mul__") (r:=some (.builtin "tuple.__rmul__")) kH.lookup (by decide+kernel) F.slot_tuple_rmul.lookup (by decide+kernel)
theorem au2:seqRepeat? (.type "tuple")=pure (some (.builtin "tuple.__mul__")):=by
 unfold seqRepeat?
 rw [PySem.seqSlot_of (T:="tuple") (name:="__mul__") (id:="tuple.__mul__") kH.lookup (by decide+kernel),PySem.seqSlot_of (T:="tuple") (name:="__rmul__") (id:="tuple.__rmul__") F.slot_tuple_rmul.lookup (by decide+kernel)];rfl
theorem amt(items:Array af): ∀(k:Nat) (acc:Array af),((aC k items).foldl (· ++ ·) acc).size=acc.size+k*items.size
 |0,acc=> by simp
 |k+1,acc=> by
  rw [cA,dY,amt items k,Array.size_append,Nat.succ_mul];lia
theorem anp(items:List af): ∀(k:Nat) (acc:Array af),((aC k items.toArray).foldl (· ++ ·) acc).toList=acc.toList++(aC k items).flatten
 |0,acc=> by simp
 |k+1,acc=> by
  rw [cA,dY,anp items k,cA,dI];simp
theorem a0v(l:Addr)(items:Array af)(n:Nat)(x:Int)(u:Tok)(h0: -1000 < x)(h1:x < 1000)(h2:items.size < 1000)(he:items.isEmpty=false):
  Meets (cJ.«tuple.__mul__» ⟨[.ref l,.int x u],[]⟩) (fun _ R s=> s.heap.get? l=some {cls:=.type "tuple",data:=.seq items n}/\
   if x=1 then R (.ok (.ret (.ref l))) s else R (.ok (.ret (.ref s.heap.objs.size))) {s with heap:=s.heap.push {cls:=.type "tuple",data:=.seq ((aC x.toNat items).foldl (· ++ ·) #[])}}):=
 .of_wp fun prog w A R s h=> by
  (obtain⟨hp,g,d,tk,os⟩:=s;obtain⟨hl,h⟩:=h)
  wp_walk
  (refine eZ (by simp;lia) ?_)
  wp_walk
  by_cases e1:x=1
  ·rw [if_pos e1]at h
   refine wpAny_ite_true (by simp [e1]) ?_
   wp_walk
   exact⟨_,rfl,h⟩
  ·rw [if_neg e1]at h
   refine eZ (by simp [he,e1]) ?_
   by_cases e2:x <=0
   ·refine wpAny_ite_true (by simp [e2]) ?_
    have e3:x.toNat=0:=by lia
    rw [e3]at h
    wp_walk
    exact⟨_,rfl,h⟩
   ·refine eZ (by simp [he];lia) ?_
    obtain⟨k,rfl⟩: ∃k:Nat,x=(k:Int):=⟨x.toNat,by lia⟩
    have b0:items.size*k < 1000000:=gY (c:=1000) (d:=1000) h2 (by lia)
    have b1:(items.size:Int)*(k:Int) < 1000000:=by
     have hb:=Int.ofNat_lt.mpr b0
     rw [Int.natCast_mul]at hb
     exact hb
    generalize hp0:(items.size:Int)*(k:Int)=pr at b1⊢
    (refine eZ (by simp;lia) ?_)
    refine eZ (by unfold Builtin.Tuple.tupleTooMany;rw [sizeLine_eq];simp;lia) ?_
    rw [dh]at h⊢
    wp_walk
    have hz:((aC k items).foldl (· ++ ·) #[]).size <=sizeLine:=by
     rw [amt,sizeLine_eq,Nat.mul_comm];simp;lia
    refine eZ (decide_eq_false (jP.mpr hz)) ?_
    wp_walk
    exact⟨_,rfl,h⟩
theorem awz(a:Int)(t:Tok)(l:Addr)(items:Array af)(n:Nat):
  Meets (cJ.«int.__rmul__» ⟨[.int a t,.ref l],[]⟩) (fun _ R s=> s.heap.get? l=some {cls:=.type "tuple",data:=.seq items n}/\R (.ok (.ret lZ)) s):=
 .of_wp fun prog w A R s h=> by
  (obtain⟨hp,g,d,tk,os⟩:=s;obtain⟨hl,h⟩:=h)
  wp_walk
  exact⟨_,rfl,h⟩
section
variable{P:aT}{w:aX}{A:bj}{E:af -> ak -> Prop}{s:ak}
theorem a2r{x:Int}{u:Tok}(ho:s.heap.get? l=some {cls:=.type "tuple",data:=.seq items n})(h0: -1000 < x)(h1:x < 1000)(h2:items.size < 1000)(he:items.isEmpty=false)(h:if x=1 then Q (.ref l) s else Q (.ref s.heap.objs.size) {s with heap:=s.heap.push {cls:=.type "tuple",data:=.seq ((aC x.toNat items).foldl (· ++ ·) #[])}}):wpAny (model P w) A (binaryOp .Mult (.ref l) (.int x u)) Q E s:=by
 refine jS (T:="tuple") (U:="int") (by decide) ⟨_,ho,rfl⟩ (fun s'=> ia s' x u) aqk F.fills_int_mul il au2 F.slot_int_index.lookup
  (gu il (ia s x u) F.entry_int_rmul (F.args_int_rmul_2 _ _) (awz x u l items n) ⟨ho,rfl,⟨_,ho,rfl⟩,gu kH ⟨_,ho,rfl⟩ F.entry_tuple_mul (F.args_tuple_mul_2 _ _) (a0v l items n x u h0 h1 h2 he) ⟨ho,?_⟩⟩)
 by_cases e:x=1
 ·rw [if_pos e]at h⊢;exact h
 ·rw [if_neg e]at h⊢;exact h
end
end L2
namespace PF
open PySem PySem.Spec
open L2
variable[XW]
def arq(dx dy:D)(s:S):R D:=match dx,dy with
 |.tup xs,.int i=> if -1000 < i/\i < 1000/\xs.length < 1000/\xs≠ [] then .ok (.tup (aC i.toNat xs).flatten) s else .bad
 |dx,dy=> aav dx dy s
theorem TDs.app: ∀{vs ws:List V} {ds es:List ag},TDs as H vs ds -> TDs as H ws es -> TDs as H (vs++ws) (ds++es)
 |_,_,_,_,.nil,s=> s
 |_,_,_,_,.cons a r,s=>.cons a (TDs.app r s)
theorem TDs.rep{vs:List V}{ds:List ag}(t:TDs as H vs ds): ∀k:Nat,TDs as H (aC k vs).flatten (aC k ds).flatten
 |0=>.nil
 |k+1=> by
  rw [cA,cA,dI,dI]
  exact t.app (TDs.rep t k)
theorem ahu{vs:List V}{us:List af}(r:jm vs us): ∀k:Nat,jm (aC k vs).flatten (aC k us).flatten
 |0=>.nil
 |k+1=> by
  rw [cA,cA,dI,dI]
  exact r.append (ahu r k)
theorem a67:Op2 X (binaryOp .Mult) arq:=va fun pins sh σ H as s x y dx dy v u Q I rl r1 r2 rx ry h=> by
 unfold arq at h
 split at h
 ·rename_i xs i
  split at h
  ·rename_i hb
   obtain⟨b1,b2,b3,b4⟩:=hb
   obtain⟨p,vs,rfl,n,e,t⟩:=r1.tup_inv
   cases r2.int_inv
   cases rx
   obtain⟨tk,rfl⟩:=ry
   obtain⟨z,its,rv,c,eo⟩:=(show ke X.prog X.w H sh.heap p (.tup vs) from I.hok p _ e)
   have hl1:=t.length
   have hl2:=rv.length
   have hne:its.toArray.isEmpty=false:=by
    cases its with
    |nil=> simp at hl2;rw [hl2]at hl1;simp at hl1;exact absurd hl1.symm (by simpa using b4)
    |cons a r=> rfl
   refine a2r eo b1 b2 (by rw [ax];lia) hne ?_
   by_cases e1:i=1
   ·rw [if_pos e1]
    subst e1
    have:(aC (1:Int).toNat xs).flatten=xs:=by simp
    rw [this]at h
    exact⟨.ref p,H,I,rfl,Dn.now (Q:=Q) h rl (.da (.tup n e t))⟩
   ·rw [if_neg e1]
    have hz:(aC i.toNat vs).flatten.length <=sizeLine:=by
     rw [mI,List.map_replicate,ly,sizeLine_eq]
     have:=gY (a:=i.toNat) (c:=1000) (b:=vs.length) (d:=1000) (by lia) (by lia)
     lia
    have I2:Inv X pins σ (upd H sh.heap.objs.size (.tup (aC i.toNat vs).flatten)) {sh with heap:=sh.heap.push {cls:=.type "tuple",data:=.seq ((aC i.toNat its.toArray).foldl (· ++ ·) #[])},toks:=sh.toks}:=
     I.laid (fun b o e=> aj _ e) (au _) ⟨hz,(aC i.toNat its).flatten,ahu rv _,0,by
      have:=anp its i.toNat #[]
      rw [show ((aC i.toNat its).flatten).toArray=(aC i.toNat its.toArray).foldl (· ++ ·) #[] from by
       apply Array.toList_inj.mp;rw [this];simp]
      exact aA _ rfl⟩
    have nw:New H sh.heap.objs.size (.tup (aC i.toNat vs).flatten) (upd H sh.heap.objs.size (.tup (aC i.toNat vs).flatten)):=⟨I.hok.fresh (au _),rfl⟩
    exact⟨.ref _,_,I2,rfl,h (.ref _) as _ (j6 nw) (rl.new nw) (.da (.tup (fun z=> rl.has z nw.no) nw.at ((t.rep _).mono (j6 nw))))⟩
  ·exact h.elim
 ·obtain⟨r,o,f⟩:=(azt (X:=X)).ex
  exact o pins sh σ H x y v u Q I rx ry (f as H s x y dx dy Q rl r1 r2 h)
end PF
namespace PF
open PySem PySem.Spec
open L2
variable[XW]
end PF
namespace L2
open PySem PySem.Spec PyProof.Rows
section
variable{P:aT}{w:aX}{A:bj}{E:af -> ak -> Prop}{s:ak}
theorem a08{x:Int}{u:Tok}(ho:s.heap.get? l=some {cls:=.type "list",data:=.seq items n})(h0: -1000 < x)(h1:x < 1000)(h2:items.size < 1000)(h:Q (.ref s.heap.objs.size) {s with heap:=s.heap.push {cls:=.type "list",data:=.seq (aC x.toNat items.toList).flatten.toArray}}):wpAny (model P w) A (binaryOp .Mult (.ref l) (.int x u)) Q E s:=by
 have b0:items.size*x.toNat < 1000000:=gY (c:=1000) (d:=1000) h2 (by lia)
 refine jS (T:="list") (U:="int") (by decide) ⟨_,ho,rfl⟩ (fun s'=> ia s' x u) noFill_list_mul F.fills_int_mul il repeat_list F.slot_int_index.lookup --
  (gu il (ia s x u) F.entry_int_rmul (F.args_int_rmul_2 _ _) (lm_int_rmul_list_any x u l items n none #[])
   ⟨ho,rfl,⟨_,ho,rfl⟩,gu F.slot_list_mul ⟨_,ho,rfl⟩ F.entry_list_mul (F.args_list_mul_2 _ _) --
    (lm_list_mul_any l items n none #[] x u (by simp [Builtin.List.listFitsIndex];lia) (by lia) (by simp [Builtin.List.listTooLong,sizeLine];lia)) ⟨ho,?_⟩⟩)
 have e:=listMul_foldl_if items x.toNat
 show Q _ _
 rw [e]
 exact h
end
end L2
namespace PF
open PySem PySem.Spec
open L2
variable[XW]
def alo(m:Bool)(dx dy:D)(s:S):R D:=match toL s dx,dy with
 |some xs,.int i=> if -1000 < i/\i < 1000/\xs.length < 1000 then vw m (aC i.toNat xs).flatten s else .bad
 |_,_=> arq dx dy s
theorem RDs.rep{K:am}{as:As}{H:Hp}{vs:List V}{ds:List D}(t:RDs K as H vs ds): ∀k:Nat,RDs K as H (aC k vs).flatten (aC k ds).flatten
 |0=>.nil
 |k+1=> by
  rw [cA,cA,dI,dI]
  exact t.append (RDs.rep t k)
theorem a51(m:Bool):Op2 X (binaryOp .Mult) (alo m):=va fun pins sh σ H as s x y dx dy v u Q I rl r1 r2 rx ry h=> by
 unfold alo at h
 split at h
 ·rename_i xs i hx
  split at h
  ·rename_i hb
   obtain⟨b1,b2,b3⟩:=hb
   obtain⟨p,vs,rfl,e,t⟩:=aba rl r1 hx
   cases r2.int_inv
   cases rx
   obtain⟨tk,rfl⟩:=ry
   obtain⟨z,its,c,rv,eo⟩:=(show ke X.prog X.w H sh.heap p (.lst vs) from I.hok p _ e)
   have hl1:=t.length
   have hl2:=rv.length
   refine a08 eo b1 b2 (by rw [ax];lia) ?_
   have hz:(aC i.toNat vs).flatten.length <=sizeLine:=by
    rw [mI,List.map_replicate,ly,sizeLine_eq]
    have:=gY (a:=i.toNat) (c:=1000) (b:=vs.length) (d:=1000) (by lia) (by lia)
    lia
   have I2:Inv X pins σ (upd H sh.heap.objs.size (.lst (aC i.toNat vs).flatten)) {sh with heap:=sh.heap.push {cls:=.type "list",data:=.seq (aC i.toNat its.toArray.toList).flatten.toArray},toks:=sh.toks}:=
    I.laid (fun b o e=> aj _ e) (au _) ⟨hz,(aC i.toNat its).flatten,0,ahu rv _,aA _ rfl⟩
   have nw:New H sh.heap.objs.size (.lst (aC i.toNat vs).flatten) (upd H sh.heap.objs.size (.lst (aC i.toNat vs).flatten)):=⟨I.hok.fresh (au _),rfl⟩
   exact⟨.ref _,_,I2,rfl,aar h rl (t.rep _) nw⟩
  ·exact h.elim
 ·obtain⟨r,o,f⟩:=(a67 (X:=X)).ex
  exact o pins sh σ H x y v u Q I rx ry (f as H s x y _ _ Q rl r1 r2 h)
end PF
namespace PF
open PySem PySem.Spec
open L2
variable[XW]
end PF
namespace PF
open PySem PySem.Spec L2
theorem u70(hr:Room k A):A.units+70 < cLine:=by have:=hr.un;lia
section
variable{s:S}{m:Bool}{n:Nat}{x y:Str}{b:Bool}{xs ys:List ag}{ds es:List D}{d e v o:D}{ρ:En}{kvs:List (ag×D)}{k:ag}
theorem bbm{f:FA}:aql f ρ s=(f ρ s).bind alm:=(rfl)
theorem bat:alm [.tup xs,.tup ys] s=.ok ((xs.zip ys).map fun p=> D.tup [p.1,p.2],none) s:=(rfl)
theorem af9(h:s[n]?=some (.lst (xs.map D.da))):qp [.ref n] s=.ok (.tup xs) s:=by
 show (match (match s[n]? with|some (O.lst ds)=> some ds|_=> none) with|some xs=> ahf xs s|none=>.bad)=_
 rw [h]
 show (match kq (xs.map D.da) with|some xs=> R.ok (D.tup xs) s|none=>.bad)=_
 rw [qw]
end
theorem adn{g:Tg}{ft:FT}{fe:FE}{ρ0:En}{all:List D}{s:S}{α:Type}(c:α -> D)(p:α -> Bool)(f:α -> ag): ∀(l:List α),(∀a∈l,∃ρ1,vy g (c a) ρ0=some ρ1/\ft ρ1 s=.ok (p a) s/\(p a=true -> fe ρ1 s=.ok (.da (f a)) s)) ->
  k9 g ft fe ρ0 (all,none) (l.map c) s=.ok (((l.filter p).map f).map D.da) s
 |[],_=> rfl
 | a::r,h=> by
  obtain⟨ρ1,e,e1,e2⟩:=h a aB
  have ih:=adn (all:=all) c p f r fun b hb=> h b (az _ hb)
  rw [aP,afe e,e1,R.calm_ok,R.bind_ok]
  cases hp:p a with
  |false=>
   rw [an3,ih,eT (by simp [hp])]
  |true=>
   rw [amf,e2 hp,R.calm_ok,R.bind_ok,aly,ih,R.bind_ok,ajt,eU hp]
   rfl
end PF
namespace PF
open PySem PySem.Spec
open L2
open PyProof.Rows (envOfC)
section XWs
variable[XW]
noncomputable def putN(f:Str)(d:D):List (Str×D) -> List (Str×D)
 |[]=> [(f,d)]
 |(g,x)::r=> if g=f then (g,d)::r else (g,x)::putN f d r
theorem FRs.put{f:Str}{v:V}{d:D}(r:RD K as H v d): ∀{l:List (Str×V)} {fs:List (Str×D)},FRs K as H l fs -> FRs K as H (vj f v l) (putN f d fs)
 |_,_,.nil=>.cons r .nil
 |_,_,.cons a t=> by
  unfold vj putN
  split
  ·exact .cons r t
  ·exact .cons a (FRs.put r t)
theorem FRs.len: ∀{l:List (Str×V)} {fs:List (Str×D)},FRs K as H l fs -> l.length=fs.length
 |_,_,.nil=> rfl
 |_,_,.cons _ t=> congrArg (· +1) (FRs.len t)
abbrev a9s:=List (Str×List Str)
end XWs
noncomputable def a04(st:Stmt)(j:Nat):Stmt:=match st with
 |.ClassDef (body:=b) ..=> b.getD j (.Pass ⟨0,0,0,0⟩)
 |_=>.Pass ⟨0,0,0,0⟩
section
variable{P:aT}{w:aX}{K:am}{mg:Str -> Option af}{base:Heap}{x q C:Str}{st:Stmt}{N ps:List Str}{k:Nat}
theorem fnQ{f:Addr}(F:Fun K x q st f fd)(S:FnScope N ps (je st)){m:Nat}(hm:N.length=m)(hn:ps.length=n)(hbody:BodyOk P w K mg base N q st k fb):FnOk P w K mg base (CX1 P w) (k+1) f fd ps (spF K n (jx m fb)):=
 F.okX S (fun vs H Q E h=> by rw [hn];exact h.1) fun cdv A outer s H vs Q E hr h=> ak6 hm hbody f cdv A outer s H vs Q E hr h
end
end PF
namespace PF
open PySem PySem.Spec
open L2
variable[XW]
section
variable{X:Cx}{pins:List (Addr×Obj)}{σ:St}{H:Hp}{s:ak}{as:As}
theorem an1(i:Int)(d:ag):d.shown.length <=(lz [(.int i,d)]).shown.length:=by
 obtain⟨p,hp,hl⟩:=PyData.shownKv_val_le [(.int i,d)] d.shown (by simp [cr])
 rw [show (lz [(.int i,d)]).shown=dictText (PyData.shownKv [(.int i,d)]) by simp only [bS]]
 exact aH hl (dictText_mem_le hp)
mutual
theorem TD.repr(I:Inv X pins σ H s): ∀{v:V} {d:ag} {u:af},TD as H v d -> RelV v u -> d.showable=true -> d.shown.length <=sizeLine -> ∃bs,ReadAtMost s.heap d.depth bs/\ReprK X.prog X.w bs s.heap d.depth u d.shown
 |_,_,u,.non,r,_,_=> by
  cases (show u=aZ from r)
  exact⟨[],(fun _ h=> nomatch h),by simp only [bS];exact .of_is ReprIs.none _ _ _⟩
 |_,_,u,.bl b,r,_,_=> by
  cases (show u=fL b from r)
  exact⟨[],(fun _ h=> nomatch h),by simp only [bS];exact .of_is (ReprIs.bool b) _ _ _⟩
 |_,_,u,.int i,r,hs,_=> by
  obtain⟨t,e⟩:=(show∃t,u=dq i t from r)
  subst e
  exact⟨[],(fun _ h=> nomatch h),by simp only [bS];exact .of_is (ReprIs.int t (by simpa [bW] using hs)) _ _ _⟩
 |_,_,u,.str x,r,_,hz=> by
  obtain⟨t,e⟩:=(show∃t,u=gb x t from r)
  subst e
  exact⟨[],(fun _ h=> nomatch h),by simp only [bS];exact .of_is (ReprIs.str x t (by simpa only [bS] using hz)) _ _ _⟩
 |_,_,u,.tup (p:=a) (xs:=xs) (ds:=ds) n e q,r,hs,hz=> by
  obtain⟨cs,rd⟩:=TD.reads I (.tup n e q) r
  cases (show u=aS a from r)
  obtain⟨z,its,rv,p⟩:=(show ke X.prog X.w H s.heap a (.tup xs) from I.hok a _ e)
  obtain⟨o,h1,h2,k,h3⟩:=p.tup
  have hz2:(tupleText (cr ds)).length <=sizeLine:=by simpa only [bS] using hz
  obtain⟨bs,hb,hk⟩:=TDs.repr I q rv (by simpa [bW] using hs) (fun t ht=> aH (tupleText_mem_le ht) hz2)
  have hna:a∉bs:=eh rd (by simp only [aJ];lia) hb
  refine⟨a::bs,im rd (by simp only [aJ];lia) hb,?_⟩
  (simp only [aJ,bS])
  exact ReprK.tuple h1 h2 h3 hna (by simpa using hk)
 | _,_,u,.lst (p:=a) (xs:=xs) (ds:=ds) n e q,r,hs,hz=> by
  obtain⟨cs,rd⟩:=TD.reads I (.lst n e q) r
  cases (show u=aS a from r)
  obtain⟨z,its,k,rv,h1⟩:=(show ke X.prog X.w H s.heap a (.lst xs) from I.hok a _ e)
  have hz2:(listText (cr ds)).length <=sizeLine:=by simpa only [bS] using hz
  obtain⟨bs,hb,hk⟩:=TDs.repr I q rv (by simpa [bW] using hs) (fun t ht=> aH (listText_mem_le ht) hz2)
  have hna:a∉bs:=eh rd (by simp only [aJ];lia) hb
  refine⟨a::bs,im rd (by simp only [aJ];lia) hb,?_⟩
  (simp only [aJ,bS])
  cases its with
  |nil=>
   cases rv
   cases q
   (simp only [cr,listText_nil])
   exact ReprK.listEmpty h1 rfl rfl
  |cons x l=> exact ReprK.list h1 rfl rfl hna (by simpa using hk.length_eq) (fun i y ey=> hk.item i y (by simpa using ey))
 |_,_,u,.dct (p:=a) n e,r,hs,hz=> by
  obtain⟨cs,rd⟩:=TD.reads I (.dct n e) r
  cases (show u=aS a from r)
  obtain⟨hsys,o,es,ep,h1,h2,h3,h4⟩:=afm I e
  refine⟨[a],im (n:=0) rd (cy _) (fun _ h=> nomatch h),?_⟩
  (simp only [aJ,bS,gJ])
  refine ReprK.dict (as:=[]) h1 h2 h3 hsys (by simp) (fY es.toList _ _ ?_ ?_)
  ·rw [h4];exact .nil
  ·rw [h4];exact .nil
 |_,_,u,.dc1 (p:=a) (i:=i) (d:=d) n e q,r,hs,hz=> by
  obtain⟨cs,rd⟩:=TD.reads I (.dc1 n e q) r
  cases (show u=aS a from r)
  obtain⟨hsys,o,es,ep,hh,t,y,ry,h1,h2,h3,h4⟩:=ak1 I e
  have hs2:bW (.int i)=true/\d.showable=true:=by simpa [bW,PyData.showableKv] using hs
  have hd1:(lz [(.int i,d)]).depth=d.depth+1:=by simp [aJ,PyData.depthKv]
  have hz2:d.shown.length <=sizeLine:=aH (an1 i d) hz
  obtain⟨bs,hb,hk⟩:=TD.repr I q ry hs2.2 hz2
  have hna:a∉bs:=eh rd (by rw [hd1];lia) hb
  refine⟨a::bs,im rd (by rw [hd1];lia) hb,?_⟩
  rw [hd1]
  simp only [bS,gJ]
  refine ReprK.dict h1 h2 h3 hsys hna (fY es.toList _ _ ?_ ?_)
  ·rw [h4];exact .cons (.of_is (ReprIs.int t (by simpa [bW] using hs2.1)) _ _ _) .nil
  ·rw [h4];exact .cons hk .nil
theorem TDs.repr(I:Inv X pins σ H s): ∀{vs:List V} {ds:List ag} {us:List af},TDs as H vs ds -> jm vs us -> ff ds=true -> (∀t∈cr ds,t.length <=sizeLine) -> ∃bs,ReadAtMost s.heap (aN ds) bs/\ReprAllK X.prog X.w bs s.heap (aN ds) us (cr ds)
 |_,_,_,.nil,r,_,_=> by
  cases r
  exact⟨[],(fun _ h=> nomatch h),by simp only [cr];exact .nil⟩
 | _,_,_,.cons (d:=d) (ds:=ds) a b,r,hs,hz=> by
  cases r with
  |cons r1 r2=>
   have hs2:d.showable=true/\ff ds=true:=by simpa [ff] using hs
   obtain⟨b1,hb1,k1⟩:=TD.repr I a r1 hs2.1 (hz _ (by simp only [cr];exact aB ..))
   obtain⟨b2,hb2,k2⟩:=TDs.repr I b r2 hs2.2 (fun t ht=> hz t (by simp only [cr];exact az _ ht))
   refine⟨b1++b2,(hb1.mono (by simp only [aN];exact lm _ _)).append (hb2.mono (by simp only [aN];exact kI _ _)),?_⟩
   simp only [aN,cr]
   (exact .cons ((k1.more fun b hb=> fN _ hb).level_le (lm _ _)) (k2.more_le (fun b hb=> bQ _ hb) (kI _ _)))
end
noncomputable def okE(d:ag):Bool:=d.showable&&decide (d.depth <=64)&&decide (d.shown.length <=sizeLine)
def ze(ds:List D)(s:S):R D:=match ds with
 |[.da a]=> if okE a=true then .ok (.str a.shown) s else .bad
 |_=>.bad
theorem a1u(hr:Room k X.A):CB X (.builtin "repr") ze:=ab5 fun pins sh σ H as s xs ds us Q I rl rs ru h=> by
 unfold ze at h
 split at h
 ·rename_i a
  obtain⟨v,rfl,rv⟩:=rs.one
  obtain⟨u,rfl,ru1⟩:=vals1 ru
  split at h
  ·rename_i ok
   unfold okE at ok
   (simp only [aG,decide_eq_true_eq]at ok)
   obtain⟨⟨ok2,ok3⟩,ok4⟩:=ok
   have hun:=hr.un
   have fin:Q (.str a.shown) H:=Dn.now (Q:=Q) h rl (.da (.str _))
   cases rv with
   | da t=>
    obtain⟨cs,rd⟩:=TD.reads I t ru1
    cases t with
    |non=> cases (show u=aZ from ru1);exact PySem.P.repr_of_none ⟨.str "None",H,I.tok _,⟨_,rfl⟩,fin⟩
    |bl b=> cases (show u=fL b from ru1);exact PySem.P.repr_of_bool ⟨.str (if b then "True" else "False"),H,I.tok _,⟨_,rfl⟩,fin⟩
    |int i=> obtain⟨t,e⟩:=(show∃t,u=dq i t from ru1);subst e;exact PySem.P.repr_of_int (by simpa [bW] using ok2) ⟨.str (toString i),H,I.tok _,⟨_,rfl⟩,fin⟩
    |str x=> obtain⟨t,e⟩:=(show∃t,u=gb x t from ru1);subst e;exact PySem.P.repr_of_str ⟨.str (reprText x),H,I.tok _,⟨_,rfl⟩,fin⟩ (by simpa [bS] using ok4)
    | @tup p xs ds n e q=>
     cases (show u=aS p from ru1)
     obtain⟨z,its,rw,pp⟩:=(show ke X.prog X.w H sh.heap p (.tup xs) from I.hok p _ e)
     obtain⟨o,h1,h2,k,h3⟩:=pp.tup
     have hz2:(tupleText (cr ds)).length <=sizeLine:=by simpa only [bS] using ok4
     obtain⟨bs,hb,hk⟩:=TDs.repr I q rw (by simpa [bW] using ok2) (fun t ht=> aH (tupleText_mem_le ht) hz2)
     have hna:p∉bs:=eh rd (by simp only [aJ];lia) hb
     simp only [aJ]at ok3
     simp only [bS]at fin
     refine iI (by lia) ⟨o,h1,h2⟩ F.slot_tuple_repr (call_tuple_reprK h1 h2 h3 hna (by simpa using hk) hr.gd (fun b _=> m8 b) (by show X.A.units+1+_ < cLine;lia) (fun _ _ e=> e) (fun h' u tk hk=> ⟨_,_,rfl,.str _,H,I.kept hk,⟨u,rfl⟩,fin⟩) hz2)
    | @lst p xs ds n e q=>
     cases (show u=aS p from ru1)
     obtain⟨z,its,k,rw,h1⟩:=(show ke X.prog X.w H sh.heap p (.lst xs) from I.hok p _ e)
     have hz2:(listText (cr ds)).length <=sizeLine:=by simpa only [bS] using ok4
     obtain⟨bs,hb,hk⟩:=TDs.repr I q rw (by simpa [bW] using ok2) (fun t ht=> aH (listText_mem_le ht) hz2)
     have hna:p∉bs:=eh rd (by simp only [aJ];lia) hb
     simp only [aJ]at ok3
     simp only [bS]at fin
     refine iI (by lia) ⟨_,h1,rfl⟩ F.slot_list_repr.toG ?_
     cases its with
     |nil=>
      cases rw
      cases q
      simp only [cr,listText_nil]at fin
      exact call_list_repr_empty ⟨_,h1,rfl⟩ h1 rfl ⟨_,_,rfl,.str _,H,I.tok _,⟨_,rfl⟩,fin⟩
     |cons x l=> exact call_list_reprK h1 rfl rfl hna (by simpa using hk.length_eq) (fun i y ey=> hk.item i y (by simpa using ey)) hr.gd (fun b _=> m8 b) (by show X.A.units+1+_ < cLine;lia) (fun _ _ e=> e) (fun h' u tk hk=> ⟨_,_,rfl,.str _,H,I.kept hk,⟨u,rfl⟩,fin⟩) hz2
    | @dct p n e=>
     cases (show u=aS p from ru1)
     obtain⟨hsys,o,es,ep,h1,h2,h3,h4⟩:=afm I e
     simp only [bS,gJ]at fin
     refine iI (by lia) ⟨o,h1,h2⟩ F.slot_dict_repr (call_dict_reprK (as:=[]) (d:=0) h1 h2 h3 hsys (by simp) (fY es.toList [] [] (by rw [h4];exact .nil) (by rw [h4];exact .nil)) hr.gd (fun b _=> m8 b) (by show X.A.units+1+_ < cLine;lia) (fun _ _ e=> e) (fun h' u tk hk=> ⟨_,_,rfl,.str _,H,I.kept hk,⟨u,rfl⟩,fin⟩) (by decide+kernel))
    | @dc1 p i v d n e q=>
     cases (show u=aS p from ru1)
     obtain⟨hsys,o,es,ep,hh,t,y,ry,h1,h2,h3,h4⟩:=ak1 I e
     have hs2:bW (.int i)=true/\d.showable=true:=by simpa [bW,PyData.showableKv] using ok2
     have hd1:(lz [(.int i,d)]).depth=d.depth+1:=by simp [aJ,PyData.depthKv]
     obtain⟨bs,hb,hk⟩:=TD.repr I q ry hs2.2 (aH (an1 i d) ok4)
     have hna:p∉bs:=eh rd (by rw [hd1];lia) hb
     rw [hd1]at ok3
     simp only [bS,gJ]at fin ok4
     refine iI (by lia) ⟨o,h1,h2⟩ F.slot_dict_repr (call_dict_reprK (d:=d.depth) h1 h2 h3 hsys hna (fY es.toList _ _ (by rw [h4];exact .cons (.of_is (ReprIs.int t (by simpa [bW] using hs2.1)) _ _ _) .nil) (by rw [h4];exact .cons hk .nil)) hr.gd (fun b _=> m8 b) (by show X.A.units+1+_ < cLine;lia) (fun _ _ e=> e) (fun h' u tk hk=> ⟨_,_,rfl,.str _,H,I.kept hk,⟨u,rfl⟩,fin⟩) ok4)
  ·exact h.elim
 ·exact h.elim
end
end PF
namespace PF
open PySem PySem.Spec
open L2
variable[XW]
theorem u66(hr:Room k X.A):X.A.units+66 < cLine:=by have:=u70 hr;lia
end PF
namespace PF
open PySem PySem.Spec
open L2
open PyProof.Rows (envOfC)
section XWs
variable[XW]
def onX{α:Type}(d:D)(s:S)(k:Nat -> Str -> List (Str×D) -> R α):R α:=match d with
 |.ref n=> match s[n]? with
  |some (.exc C fs)=> k n C fs
  |_=>.bad
 |_=>.bad
theorem amh{α β:Type}{rel:As -> Hp -> β -> α -> Prop}{d:D}{k:Nat -> Str -> List (Str×D) -> R α}{Q:β -> Hp -> Prop}(rl:Rel K as H s)(r:RD K as H v d)(h:Dn K rel as H (onX d s k) Q):
  ∃p n C fs,v=.ref p/\d=.ref n/\as.ix[n]?=some (some p)/\s[n]?=some (.exc C fs)/\RO K as H p (.exc C fs)/\Dn K rel as H (k n C fs) Q:=by
 cases r with
 | @ref p n l hr=>
  have h:Dn K rel as H (match s[n]? with|some (O.exc C fs)=> k n C fs|_=>.bad) Q:=h
  split at h
  ·rename_i C fs e
   obtain⟨q,hq⟩:=rl.li n _ e (by intro z;cases z)
   cases hr q hq
   exact⟨p,n,C,fs,rfl,rfl,hq,e,rl.ob n p _ hq e,h⟩
  ·exact h.elim
 |_=> exact h.elim
structure XT (K:am) (mg:Str -> Option af) (b:Str) (cs fl:List Str):Prop where
 ok: ∀C∈b::cs,∃Ca:Addr,bA K aV C=some (some (.ref Ca))/\mg C=some (.ref Ca)/\ClsX K Ca/\(∀f∈fl,aa8 K Ca f)/\cH K (.ref Ca) (.type "ValueError")=some true/\
  ∀D∈b::cs,∀Da:Addr,bA K aV D=some (some (.ref Da)) -> cH K (.ref Ca) (.ref Da)=some (D==C||D==b)
section
variable{b:Str}{cs fl:List Str}{mg:Str -> Option af}
theorem XT.at(x:XT K mg b cs fl)(h:(b::cs).contains C=true)(e:bA K aV C=some (some (.ref Ca))):ClsX K Ca/\(∀f,fl.contains f=true -> aa8 K Ca f)/\cH K (.ref Ca) (.type "ValueError")=some true/\
  ∀D,(b::cs).contains D=true -> ∀Da:Addr,bA K aV D=some (some (.ref Da)) -> cH K (.ref Ca) (.ref Da)=some (D==C||D==b):=by
 obtain⟨Ca',h1,_,h3,h4,h5,h6⟩:=x.ok C (fG.mp h)
 rw [e]at h1;cases h1
 exact⟨h3,fun f hf=> h4 f (fG.mp hf),h5,fun D hD=> h6 D (fG.mp hD)⟩
def ai3(b:Str)(cs fl:List Str)(f:Str)(fo fv:FE):FS:=fun ρ s=> (fv ρ s).bind fun x s1=> (fo ρ s1).bind fun d s2=> onX d s2 fun n C fs=> if ((b::cs).contains C=true/\fl.contains f=true)/\fs.length < 1000 then .ok (.nx ρ) (s2.set n (.exc C (putN f x fs))) else .bad
theorem ap3{p:Addr}{f:Str}{gs:List (Str×V)}{fs:List (Str×D)}{x:D}(rl:Rel K as H s)(ha:as.ix[n]?=some (some p))(e0:bA K aV C=some (some (.ref Ca)))(fr:FRs K as H gs fs)(rv:RD K as H v x):
  Step as H as (upd H p (.exn Ca (vj f v gs)))/\Rel K as (upd H p (.exn Ca (vj f v gs))) (s.set n (.exc C (putN f x fs))):=by
 have c:Chg H p (.exn Ca (vj f v gs)) (upd H p (.exn Ca (vj f v gs))):=⟨rfl⟩
 have st:=ahr (qk.mpr ⟨n,ha⟩) (fun z=> rl.hx p z (qk.mpr ⟨n,ha⟩)) c
 exact⟨st,rl.chg ha c ⟨Ca,_,e0,c.at,(fr.put rv).mono0 st.toStep0⟩⟩
theorem ap9{f:Str}{o value:Expr}{fv:FE}{pos':Pos}(x:XT X.K X.mg b cs fl)(ho:RE X o fo)(hv:RE X value fv)(hs:gf value (some (.Attribute o f pos')) pos.line X.env=pure false:=by rfl):RS X (.Assign [.Attribute o f pos'] value pos) (ai3 b cs fl f fo fv):=by
 obtain⟨to,po,ro⟩:=ho.ex
 obtain⟨tv,pv,rv⟩:=hv.ex
 refine⟨_,a0w po pv hs,fun as σ H ρ s D rl en h=> ?_⟩
 refine rv as σ H ρ s _ rl en (Dn.bind h fun y s1 as1 H1 yv st1 rl1 r1 h1=> ?_)
 refine ro as1 σ H1 ρ s1 _ rl1 (en.mono st1) (Dn.bind h1 fun d s2 as2 H2 z st2 rl2 r2 h2=> ?_)
 obtain⟨p,n,C,fs,rfl,rfl,ha,hs,⟨Ca,gs,e0,e1,fr⟩,h3⟩:=amh rl2 r2 h2
 split at h3
 ·rename_i hf
  obtain⟨c1,c2,_⟩:=x.at hf.1.1 e0
  refine⟨p,Ca,gs,rfl,e1,c1,c2 f hf.1.2,by rw [fr.len];exact hf.2,fun H3 w=> ?_⟩
  rcases w with rfl|⟨dx,hdx,rfl⟩
  ·obtain⟨st,rl3⟩:=ap3 (f:=f) rl2 ha e0 fr (r1.mono st2)
   exact h3 (FV.nx σ) as2 _ st rl3 (.nx (((en.mono st1).mono st2).mono st))
  ·have n1:New H2 dx (.own p) (upd H2 dx (.own p)):=⟨hdx,rfl⟩
   have st0:Step as2 H2 as2 (upd H2 dx (.own p)):=j6 n1
   have rl0:=rl2.new n1
   obtain⟨st,rl3⟩:=ap3 (f:=f) rl0 ha e0 (fr.mono0 st0.toStep0) ((r1.mono st2).mono st0)
   exact h3 (FV.nx σ) as2 _ (st0.trans st) rl3 (.nx ((((en.mono st1).mono st2).mono st0).mono st))
 ·exact h3.elim
end
structure InitX (P:aT) (w:aX) (K:am) (mg:Str -> Option af) (base:Heap) (C:Str) (k n:Nat) (F:FF):Prop where
 ex: ∃(Ca f:Addr) (fd:eH) (ps:List Str),bA K aV C=some (some (.ref Ca))/\mg C=some (.ref Ca)/\MkX K Ca f/\ClsM K Ca "__init__" f/\FnOk P w K mg base (CX1 P w) k f fd ps (spF K n F)/\Binds K fd ps []
def yu(C:Str)(n:Nat)(F:FF)(fa:FA):FE:=fun ρ s=> (fa ρ s).bind fun ds s1=> if ds.length+1=n/\n < 1000 then ((F (.ref s1.length::ds) (s1++ [.exc C []])).at ρ).bind fun d s2=> match d with
  |.da .none=>.ok (.ref s1.length) s2
  |_=>.bad
 else .bad
theorem aax{x:Str}{F:FF}{fa:FA}{p:Pos}(c:InitX X.prog X.w X.K X.mg X.base x k n F)(hr:Room (k+1) X.A)(ha:RA X (e::es) fa)(hx:XOk X XW.xk:=by assumption)(hg:Gl X x:=by rfl)(hdb:(x==("__debug__":Str))=false:=by decide)(he:starEach (e::es) X.env=(false,eval e X.env)::starEach es X.env:=by rfl)(hpl:(backTo pos (starEach es X.env)).any (·.1)=false:=by rfl):RE X (.Call (.Name x p) (e::es) [] pos) (yu x n F fa):=by
 obtain⟨Ca,f,fd,ps,e0,hm,M,_,Fo,bi⟩:=c.ex
 obtain⟨ta,pa,ra⟩:=ha.ex
 refine⟨_,aw7 M Fo hr hg hm bi hx.pass pa hdb he hpl,?_⟩
 intro as σ H ρ s Q rl en h
 refine ra as σ H ρ s _ rl en (Dn.bind h fun ds s1 as1 H1 vs st1 rl1 r1 h1=> ?_)
 split at h1
 ·rename_i hn
  refine⟨by rw [r1.length,sizeLine_eq];lia,fun a na=> ?_⟩
  have n2:New H1 a (.exn Ca []) (upd H1 a (.exn Ca [])):=⟨na,rfl⟩
  have st:Step as1 H1 (as1.add a) (upd H1 a (.exn Ca [])):=ad1 n2
  have rl3:=rl1.laid (u:=.exc x []) n2 ⟨Ca,[],e0,n2.at,.nil⟩
  have rx:RD X.K (as1.add a) (upd H1 a (.exn Ca [])) (.ref a) (.ref s1.length):=.ref (by simp [rl1.len]) fun q e=> by
   rw [←rl1.len]at e
   simp at e
   exact e.symm
  refine⟨by rw [aQ,r1.length];exact hn.1,as1.add a,.ref s1.length::ds,_,rl3,.cons rx (r1.mono st),?_⟩
  refine Dn.at (ρ:=ρ) (Dn.bind (Dn.step h1 st) fun d s2 as2 H2 v st2' rl2' r2 h2=> ?_) ((en.mono st1).mono st)
  split at h2
  ·cases r2 with
   |da t=> cases t;exact⟨rfl,Dn.now (Q:=Q) h2 rl2' (rx.mono st2')⟩
  ·exact h2.elim
 ·exact h1.elim
theorem ayq{x:Str}{F:FF}{fa:FA}{p apos:Pos}{pl:Sem Bool}(c:InitX X.prog X.w X.K X.mg X.base x k n F)(hr:Room k X.A)(ha:RA X (e::es) fa)(hx:XOk X XW.xk:=by assumption)(hg:Gl X x:=by rfl)(hdb:(x==("__debug__":Str))=false:=by decide)(he:starEach (e::es) X.env=(false,eval e X.env)::starEach es X.env:=by rfl)(hpl:(backTo pos (starEach es X.env)).any (·.1)=false:=by rfl)(ht:eval (.Call (.Attribute (.Name x p) "__init__" apos) (e::es) [] pos) X.env=(do
   let ov←eval (.Name x p) X.env
   standAt apos.atName
   let (f,first)←holding [ov] (lh ov "__init__" pl)
   callWith pos f first (backTo pos (starEach (e::es) X.env)) (backToKw pos (gM [] X.env))):=by rfl):RE X (.Call (.Attribute (.Name x p) "__init__" apos) (e::es) [] pos) (jd n F fa):=by
 obtain⟨Ca,f,fd,ps,e0,hm,_,C,Fo,bi⟩:=c.ex
 obtain⟨ta,pa,ra⟩:=ha.ex
 refine⟨_,awr C hg hm pa hdb he hpl ht,?_⟩
 intro as σ H ρ s Q rl en h
 refine ra as σ H ρ s _ rl en (Dn.bind h fun ds s1 as1 H1 vs st1 rl1 r1 h1=> ?_)
 split at h1
 ·rename_i hn
  intro pins sh us I ru
  refine ath Fo hr bi .nil hx.pass I ru ⟨by rw [cn,r1.length];exact hn,as1,ds,s1,rl1,?_,h1.at (en.mono st1)⟩
  rw [cn];exact r1
 ·exact h1.elim
def af2(b:Str)(cs:List Str)(ds:List D)(s:S):R D:=match ds with
 |[d,_]=> onX d s fun _ C _=> if (b::cs).contains C=true then .ok .non s else .bad
 |_=>.bad
theorem awv{b:Str}{fa:FA}{p apos:Pos}{pl:Sem Bool}(x:XT X.K X.mg b cs fl)(hm:X.mg "ValueError"=none)(ha:RA X (e::es) fa)(hg:Gl X "ValueError":=by rfl)(he:starEach (e::es) X.env=(false,eval e X.env)::starEach es X.env:=by rfl)(hpl:(backTo pos (starEach es X.env)).any (·.1)=false:=by rfl)(ht:eval (.Call (.Attribute (.Name "ValueError" p) "__init__" apos) (e::es) [] pos) X.env=(do
   let ov←eval (.Name "ValueError" p) X.env
   standAt apos.atName
   let (f,first)←holding [ov] (lh ov "__init__" pl)
   callWith pos f first (backTo pos (starEach (e::es) X.env)) (backToKw pos (gM [] X.env))):=by rfl):RE X (.Call (.Attribute (.Name "ValueError" p) "__init__" apos) (e::es) [] pos) (fCB (af2 b cs) fa):=by
 obtain⟨ta,pa,ra⟩:=ha.ex
 refine⟨_,awq hg hm pa he hpl ht,?_⟩
 intro as σ H ρ s Q rl en h
 refine ra as σ H ρ s _ rl en (Dn.bind h fun ds s1 as1 H1 vs st1 rl1 r1 h1=> ?_)
 unfold af2 at h1
 split at h1
 ·obtain⟨v,w,rfl,rv,rw⟩:=r1.two
  obtain⟨p,n,C,fs,rfl,rfl,ha,hs,⟨Ca,gs,e0,e1,fr⟩,h2⟩:=amh rl1 rv h1
  split at h2
  ·rename_i hc
   exact⟨p,Ca,gs,[w],rfl,e1,(x.at hc e0).1,by rw [sizeLine_eq];simp,Dn.now (Q:=Q) h2 rl1 (.da .non)⟩
  ·exact h2.elim
 ·exact h1.elim
end XWs
structure HasX (K:am) (mg:Str -> Option af) (C q:Str) (st:Stmt) (ps:List Str):Prop where
 ex: ∃(Ca f:Addr) (fd:eH),bA K aV C=some (some (.ref Ca))/\mg C=some (.ref Ca)/\MkX K Ca f/\ClsM K Ca "__init__" f/\Fun K "__init__" q st f fd/\Binds K fd ps []
theorem atm(h:HasX K mg C q st ps)(S:FnScope N ps (je st)){m:Nat}(hm:N.length=m)(hn:ps.length=n)(hbody:BodyOk P w K mg base N q st k fb):InitX P w K mg base C (k+1) n (jx m fb):=by
 obtain⟨Ca,f,fd,e0,e1,M,c,F,b⟩:=h.ex
 exact⟨Ca,f,fd,ps,e0,e1,M,c,fnQ F S hm hn hbody,b⟩
end PF
namespace L2
open PySem PySem.Spec PyProof.Rows EX
noncomputable def a4w(j:Nat)(D:Ends):Ends:={nx:=fun σ H=> D.nx (σ.set j none) H,rt:=D.rt,bk:=fun σ H=> D.bk (σ.set j none) H,ct:=fun σ H=> D.ct (σ.set j none) H}
def hE(K:am)(Ca:Addr)(j:Option Nat)(th:TS)(D:Ends):XE:=fun σ p H=> ∃C fs,H p=some (.exx C fs)/\ClsX K C/\lN K (.ref C) (.ref Ca)=some true/\match j with
 |none=> th D σ H
 |some j=> th (a4w j D) (σ.set j (some (.ref p))) H
def a3m(K:am)(Ca:Addr)(j:Option Nat)(tb:XE -> TS)(th:TS):TS:=fun D σ H=> tb (hE K Ca j th D) D σ H
section
variable{X:Cx}{pins:List (Addr×Obj)}{σ:St}{H:Hp}{s:ak}
theorem SP.unhand{e:af}{D:Ends}{f:Flow}{s':ak}(ok:X.Ok)(h:SP (X.hand e) pins D f s'):SP X pins D f s':=by
 cases f with
 |next=> obtain⟨σ',H',I,q⟩:=h;exact⟨σ',H',I.unhand ok,q⟩
 |brk=> obtain⟨σ',H',I,q⟩:=h;exact⟨σ',H',I.unhand ok,q⟩
 |cont=> obtain⟨σ',H',I,q⟩:=h;exact⟨σ',H',I.unhand ok,q⟩
 |ret u=> obtain⟨v,σ',H',I,r,q⟩:=h;exact⟨v,σ',H',I.unhand ok,r,q⟩
theorem awh{c:Str}{cp hp:Pos}{nm:Option Str}{j:Option Nat}{th:TS}{D:Ends}(ok:X.Ok)(hst:X.stack=X.env::X.outer/\X.env.frame=some X.env.locals)(hg:Gl X c)(hm:X.mg c=some (.ref Ca))(hdb:(c==("__debug__":Str))=false)(run: ∀(p:Addr) (σ:St) (H:Hp) (s:ak),Inv X pins σ H s -> (∃C t dx tb,s.heap.get? p=some (adb C dx t tb)/\amo s.heap p tb) -> (match j with|none=> th D σ H|some j=> th (a4w j D) (σ.set j (some (.ref p))) H) -> codeAny (model X.prog X.w) (X.A.mark (some (.ref p))) (.handlers (.ref p) [.ExceptHandler none nm (b0::suite) hp] X.env) (fun r s₂=> match r with
     |.ok f=> (match nm with
      |none=> SP X pins D f s₂
      |some n=> wpAny (model X.prog X.w) X.A (do bindName X.env n .none;unbindBehindTheSuite X.env n hp) (fun _ s₃=> SP X pins D f s₃) X.xe s₂)
     |.error x=> cameBackBy (model X.prog X.w) X.A X.env X.xe x s₂) s):
  XOk (X.tries (X.pn++pins) fun e s1=> wpAny (model X.prog X.w) X.A (kW e X.env) (fun _ s2=> wpAny (model X.prog X.w) X.A (iX e none) (fun _ s3=> wpAny (model X.prog X.w) X.A (handleBy e X.env [.ExceptHandler (some (.Name c cp)) nm (b0::suite) hp]) (SP X pins D) X.xe s3) X.xe s2) X.xe s1) (hE X.K Ca j th D):=by
 refine⟨fun pins1 σ1 H1 s1 e s' I1 hc=> ?_,PassesOwn.looking⟩
 obtain⟨p,H2,C,fs,t,dx,tb',rfl,os,bare,un,hok,hp,he,ht,p',ep,C',fs',hp',cl,hx,hr⟩:=hc
 cases ep
 rw [hp]at hp';cases hp'
 have J:Inv X pins σ1 H2 s':=(I1.call' (H':=H2) os un hok bare fun b z=> absurd z (by simp)).untries ok
 have fr:X.A.frames=some (X.env::X.outer):=by rw [←hst.1];exact J.ok.frames
 have fu:s'.heap.FunFrames X.base (X.env::X.outer):=by rw [←hst.1];exact J.stack
 show wpAny _ X.A (kW (.ref p) X.env) _ _ s'
 refine av5 fr fu hst.2 he ht fun h' n=> ?_
 have n':Noted X.stack p C dx t s'.heap h':=by rw [hst.1];exact n
 have J2:Inv X pins σ1 H2 {s' with heap:=h'}:=J.call' (s':={s' with heap:=h'}) rfl (n'.un hp) (n'.hok J.hok hp ⟨tb',he⟩ J.stkFree) J.bare fun b z=> absurd z (by simp)
 obtain⟨oT,ts,e1,e2,e3⟩:=n.ent
 refine wpAny_handleBy_cons (codeAny_handlers_test ?_) (by intro q;cases q)
 refine adz (X:=X.hand (.ref p)) (J2.hand (.ref p)) hg hm ?_ hdb
 have LT:fV (model X.prog X.w) h' (typeOf (.ref p)) (.ref C):=(fV.ld n.exc).andThen .now
 refine (PySem.W.exm_one J2.kIn LT hx).here ?_
 exact run p σ1 H2 _ J2 ⟨C,t,dx,_,n.exc,.inr ⟨_,oT,ts,rfl,dR (ay he),e1,e2,e3⟩⟩ hr
end
section
variable{X:Cx}{body suite:List Stmt}{b0:Stmt}{c:Str}{cp hp pos:Pos}{Ca:Addr}{tb:XE -> TS}{th:TS}
theorem a3u(hst:X.stack=X.env::X.outer/\X.env.frame=some X.env.locals)(hg:Gl X c)(hm:X.mg c=some (.ref Ca))(hb: ∀E pn xe,XOk (X.tries pn xe) E -> PSs (X.tries pn xe) body (tb E))(hh: ∀e,PSs (X.hand e) (b0::suite) th)
  (hdb:(c==("__debug__":Str))=false:=by decide):PS X (.Try body [.ExceptHandler (some (.Name c cp)) none (b0::suite) hp] [] [] pos) (a3m X.K Ca none tb th):=by
 refine⟨?_⟩;intro pins s σ H D I hw
 refine wpAny_Try_except ?_
 refine cL (hb _ _ _ (awh (cp:=cp) (hp:=hp) (nm:=none) (b0:=b0) (suite:=suite) (j:=none) (th:=th) (D:=D) I.ok hst hg hm hdb fun p σ1 H1 s1 J ⟨C,t,dx,tb',he,ht⟩ hr=> ?_) [] s σ H D (I.tries _) hw) (fun f s1 h1=> ?_) (fun e s1 h1=> h1)
 ·refine codeAny_handlers_suite (a5f he ht ?_)
  exact cL (hh (.ref p) pins s1 σ1 H1 D (J.hand _) hr) (fun f s2 h2=> SP.unhand I.ok h2) fun _ _ z=> z.elim
 ·have h1':SP X pins D f s1:=SP.untries I.ok h1
  cases f with
  |next=> exact hX h1'
  |brk=> exact h1'
  |cont=> exact h1'
  |ret u=> exact h1'
end
variable{X:Cx}{e:Expr}{es:List Expr}{p pos tp:Pos}{k:ExprContext}{te:TE}
end L2
namespace PF
open PySem PySem.Spec
open L2 EX
variable[XW]
section
variable{b:Str}{cs fl:List Str}{mg:Str -> Option af}
def ai0(b:Str)(cs:List Str)(ρ:En)(d:D)(s:S):R Fl:=onX d s fun n C fs=> if (b::cs).contains C=true then .ex n ρ (s.set n (.xcx C fs)) else .bad
def aa6(b:Str)(cs:List Str)(fa:FE):FS:=fun ρ s=> (fa ρ s).bind (ai0 b cs ρ)
theorem aas{a:Expr}(x:XT X.K X.mg b cs fl)(hc:X.calm=true)(h:RE X a fa)(hx:XOk X XW.xk:=by assumption):RS X (.Raise (some a) none pos) (aa6 b cs fa):=by
 obtain⟨t,p,r⟩:=h.ex
 refine⟨_,axk hx hc p,fun as σ H ρ s D rl en h=> ?_⟩
 refine r as σ H ρ s _ rl en (Dn.bind h fun d s1 as1 H1 v st1 rl1 r1 h1=> ?_)
 obtain⟨p,n,C,fs,rfl,rfl,ha,hs,⟨Ca,gs,e0,e1,fr⟩,h2⟩:=amh rl1 r1 h1
 split at h2
 ·rename_i hcc
  obtain⟨c1,_⟩:=x.at hcc e0
  have cg:Chg H1 p (.exx Ca gs) (upd H1 p (.exx Ca gs)):=⟨rfl⟩
  have st:=ahr (qk.mpr ⟨n,ha⟩) (fun z=> rl1.hx p z (qk.mpr ⟨n,ha⟩)) cg
  have rl2:Rel X.K as1 (upd H1 p (.exx Ca gs)) (s1.set n (.xcx C fs)):=rl1.chg ha cg ⟨Ca,gs,e0,cg.at,fr.mono0 st.toStep0⟩
  exact⟨p,Ca,gs,rfl,e1,c1,h2 as1 _ p σ st rl2 ((en.mono st1).mono st) ha⟩
 ·exact h2.elim
end
end PF
namespace PF
open PySem PySem.Spec
open L2 EX
section
variable{K:am}{mg:Str -> Option af}{b:Str}{cs fl:List Str}
theorem avn{C:Addr}(c:ClsE K C):iJ K (.ref C) (.ref C)=some true:=by
 obtain⟨nm,q,N,bs,bm,sn,sub,ab,col,dd,k0,k1,k2,k3,k5,e,a⟩:=c.at_
 have h1:((eV K C).isSome&&iK K (.ref C)==some (.type "type"))=true:=by simp [eV,iK,e]
 unfold iJ
 dsimp only
 rw [if_pos h1]
 simp [jA,i6,eV,e]
theorem XT.exm(x:XT K mg b cs fl){c:Str}(hC:(b::cs).contains C=true)(hc:(b::cs).contains c=true){Da:Addr}(e:bA K aV C=some (some (.ref Ca)))(e2:bA K aV c=some (some (.ref Da))):
  lN K (.ref Ca) (.ref Da)=some (c==C||c==b):=by
 obtain⟨c1,_,_,k⟩:=x.at hC e
 obtain⟨c2,_⟩:=x.at hc e2
 have h:=k c hc Da e2
 have hs:jA K (.ref Da) (.type "BaseException")=some true:=c2.toClsE.sub (T:="BaseException") (b:=true) (by decide+kernel)
 unfold lN
 rw [if_pos (by rw [hs];rfl)]
 by_cases z:Ca=Da
 ·subst z
  have:(c==C||c==b)=true:=by
   unfold cH at h
   rw [if_pos (by simp)]at h
   exact (cq h).symm
  rw [this]
  exact avn c1.toClsE
 ·unfold cH at h
  rwa [if_neg (by simpa using z)]at h
theorem Envs.unset(e:Envs K as H ρ σ)(i:Nat):Envs K as H (ρ.set i none) (σ.set i none):=by
 refine⟨by simp [e.len],fun j x h=> ?_⟩
 by_cases z:i=j
 ·subst z
  rw [dG]at h
  split at h
  ·split at h <;> simp at h
  ·rename_i q;exact absurd rfl q
 ·rw [a8 z]at h⊢
  exact e.get j x h
theorem RSs.pss[XW]{X:Cx}{st:List Stmt}{f:FS}(h:RSs X st f):PSs X st (avs X.K f):=by
 obtain⟨t,p,r⟩:=h.ex
 exact⟨fun pins s σ H D I ⟨as,ρ,s',a,b,c⟩=> p pins s σ H D I (r as σ H ρ s' D a b c)⟩
end
noncomputable def unF(j:Nat)(fl:Fl):Fl:=match fl with
 |.nx ρ=>.nx (ρ.set j none)
 |.rt d=>.rt d
 |.bk ρ=>.bk (ρ.set j none)
 |.ct ρ=>.ct (ρ.set j none)
def kUn(j:Nat)(fl:Fl)(s:S):R Fl:=.ok (unF j fl) s
def ajj(b:Str)(cs:List Str)(c:Str)(j:Option Nat)(fh:FS)(n:Nat)(ρ:En)(s:S):R Fl:=match s[n]? with
 | some (.xcx C _)=> if (b::cs).contains C=true/\(c==C||c==b)=true then (match j with
   |none=> (fh ρ s).calm
   |some j=> (fh (ρ.set j (some (.ref n))) s).calm.bind (kUn j)) else .bad
 |_=>.bad
def afi(b:Str)(cs:List Str)(c:Str)(j:Option Nat)(fb fh:FS):FS:=fun ρ s=> match fb ρ s with
 |.ok fl s1=>.ok fl s1
 |.bad=>.bad
 |.ex n ρ1 s1=> ajj b cs c j fh n ρ1 s1
section
variable[XW]{X:Cx}{b c:Str}{cs fl:List Str}{body suite:List Stmt}{b0:Stmt}{fb fh:FS}{cp hp pos:Pos}
theorem a1r{j:Option Nat}(x:XT X.K X.mg b cs fl)(hc:(b::cs).contains c=true)(h1:bA X.K aV c=some (some (.ref Ca))):
  ahh X.K (a3m X.K Ca j (fun E=> @avs ⟨E⟩ X.K fb) (@avs XW.dft X.K fh)) (afi b cs c j fb fh):=by
 intro as σ H ρ s D rl en h
 refine⟨as,ρ,s,rl,en,?_⟩
 unfold afi at h
 cases q:fb ρ s with
 |ok fl s1=> rw [q]at h;exact h
 |bad=> rw [q]at h;exact h.elim
 | ex n ρ1 s1=>
  rw [q]at h
  intro as' H' p σ' st rl' en' ix
  have h:=Dn.step (r:=ajj b cs c j fh n ρ1 s1) h st
  unfold ajj at h
  split at h
  ·rename_i C fs e
   obtain⟨Ca',gs,e0,e1,fr⟩:=rl'.ob n p _ ix e
   split at h
   ·rename_i hcc
    refine⟨Ca',gs,e1,(x.at hcc.1 e0).1,by rw [x.exm hcc.1 hc e0 h1,hcc.2],?_⟩
    cases j with
    |none=> exact⟨as',ρ1,s1,rl',en',Dn.calm h⟩
    |some j=>
     have rd:RD X.K as' H' (.ref p) (.ref n):=.ref (aE.mp ix).1 fun r e'=> by rw [ix]at e';cases e';rfl
     refine⟨as',ρ1.set j (some (.ref n)),s1,rl',en'.set j rd,Dn.calm (Dn.bind h fun fl s2 as2 H2 fv st2 rl2 r2 h2=> ?_)⟩
     cases r2 with
     |nx e=> exact Dn.now (K:=X.K) (rel:=rF X.K) (Q:=yh D) (b:=FV.nx _) h2 rl2 (rF.nx (e.unset j))
     |rt e=> exact Dn.now (K:=X.K) (rel:=rF X.K) (Q:=yh D) (b:=FV.rt _) h2 rl2 (rF.rt e)
     |bk e=> exact Dn.now (K:=X.K) (rel:=rF X.K) (Q:=yh D) (b:=FV.bk _) h2 rl2 (rF.bk (e.unset j))
     |ct e=> exact Dn.now (K:=X.K) (rel:=rF X.K) (Q:=yh D) (b:=FV.ct _) h2 rl2 (rF.ct (e.unset j))
   ·exact h.elim
  ·exact h.elim
theorem a5b(x:XT X.K X.mg b cs fl)(hst:X.stack=X.env::X.outer/\X.env.frame=some X.env.locals)(hc:(b::cs).contains c=true)(hb: ∀(I:XW) pn xe,XOk (X.tries pn xe) I.xk -> @RSs I (X.tries pn xe) body fb)
  (hh: ∀(I:XW) e,XOk (X.hand e) I.xk -> @RSs I (X.hand e) (b0::suite) fh) (hg:Gl X c:=by rfl) (hdb:(c==("__debug__":Str))=false:=by decide):RS X (.Try body [.ExceptHandler (some (.Name c cp)) none (b0::suite) hp] [] [] pos) (afi b cs c none fb fh):=by
 obtain⟨Ca,h1,h2,_⟩:=x.ok c (fG.mp hc)
 exact⟨_,a3u hst hg h2 (fun E pn xe hx=> @RSs.pss ⟨E⟩ _ _ _ (hb ⟨E⟩ pn xe hx)) (fun e=> @RSs.pss XW.dft _ _ _ (hh XW.dft e (XOk.never f8))) hdb,a1r x hc h1⟩
end
section
variable{b c:Str}{cs fl ns:List Str}{ρ ρ1:En}{s s1:S}{n:Nat}{C f:Str}{fs:List (Str×D)}{x d:D}{fa fe:FE}{fb fh:FS}
theorem bav:aa6 b cs fa ρ s=(fa ρ s).bind (ai0 b cs ρ):=(rfl)
theorem auw(h:s[n]?=some (.exc C fs))(hc:(b::cs).contains C=true):ai0 b cs ρ (.ref n) s=.ex n ρ (s.set n (.xcx C fs)):=by
 show (match s[n]? with|some (O.exc C fs)=> (if (b::cs).contains C=true then (R.ex n ρ (s.set n (.xcx C fs)):R Fl) else .bad)|_=>.bad)=_
 rw [h];exact if_pos hc
theorem a6h{j:Option Nat}{fl:Fl}(h:fb ρ s=.ok fl s1):afi b cs c j fb fh ρ s=.ok fl s1:=by unfold afi;rw [h]
theorem a57{j:Option Nat}(h:fb ρ s=.ex n ρ1 s1):afi b cs c j fb fh ρ s=ajj b cs c j fh n ρ1 s1:=by unfold afi;rw [h]
theorem ayp(h:s[n]?=some (.xcx C fs))(hc:(b::cs).contains C=true)(hm:(c==C||c==b)=true):ajj b cs c none fh n ρ s=(fh ρ s).calm:=by
 unfold ajj;rw [h];exact if_pos ⟨hc,hm⟩
end
end PF
namespace L2
open PySem PySem.Spec PyProof.Rows
theorem ad6(is:List Int): ∀k,preSum (fun i=> is.getD i 0) k=(is.take k).sum
 |0=> by simp [preSum]
 |k+1=> by
  rw [preSum,ad6 is k,jJ]
  cases h:is[k]? with
  |none=> simp [bH,h]
  |some x=> simp [bH,h]
theorem ahz: ∀(l:List Int),(∀i∈l,0 <=i/\i <=1000000) -> 0 <=l.sum/\l.sum <=1000000*l.length
 |[],_=> by simp
 |x::r,h=> by
  have a:=h x aB
  have b:=ahz r fun i hi=> h i (az _ hi)
  (simp only [d8,aQ])
  lia
theorem au0(hc:X.calm=true):vb X (.builtin "sum") (fun vs H Q=> ∃(a:Addr) (is:List Int),vs=[.ref a]/\SqL X.K H a (is.map V.int)/\is.length <=100000/\(∀i∈is,0 <=i/\i <=1000000)/\Q (.int is.sum) H):=by
 intro pins s σ H vs us Q I r h
 obtain⟨a,is,rfl,hS,hz,hb,q⟩:=h
 obtain⟨u,rfl,ru⟩:=vals1 r
 cases ru
 have hh:X.A.in1.handled=none:=I.ok.hd hc
 obtain⟨its,rv,⟨o,n,e,c,dd,d⟩,z⟩:=I.list hS
 have l1:s.heap.IsList a its.toArray:=⟨o,e,c,n,d⟩
 have hl:=rv.length
 rw [ao]at hl
 have tb: ∀k,0 <=(is.take k).sum/\(is.take k).sum <=1000000*100000:=fun k=> by
  have:=ahz (is.take k) fun i hi=> hb i (List.take_subset _ _ hi)
  have l:=List.length_take_le k is
  have l2:=List.length_take_le' k is
  lia
 refine call_sum_walk (eg l1 ⟨s.heap.objs.size,_,_,_,_,_,fun i=> is.getD i 0,rfl,Walks.list hh _ a (aR (ay e)) its.toArray,⟨⟨_,aA _ rfl,rfl,rfl⟩,l1.push _⟩,?_,?_,?_,fun h' tk t' k=> ?_⟩)
 ·intro b m
  rw [a9]
  simp only [aw,bc,or_false]at m
  rcases m with rfl|rfl
  ·exact eL _
  ·exact cD (ay e)
 ·intro i v hv
  have hi:i < is.length:=by
   have:=(bP.mp hv).1
   rw [ax]at this
   lia
  have e1:(is.map V.int)[i]?=some (.int is[i]):=by rw [aL,ar hi];rfl
  obtain⟨u,hu,ru⟩:=rv.get e1
  rw [lI,hu]at hv
  obtain rfl:u=v:=cq hv
  obtain⟨t,rfl⟩:=ru
  exact⟨t,by show dq is[i] t=dq (is.getD i 0) t;rw [bH,ar hi];rfl⟩
 ·intro j hj
  rw [ax,←hl]at hj
  have b1:=hb is[j] (cz hj)
  have e3:is.getD j 0=is[j]:=by rw [bH,ar hj];rfl
  refine⟨⟨?_,?_⟩,?_⟩
  ·show -2^63 <=is.getD j 0;rw [e3];lia
  ·show is.getD j 0 < 2^63;rw [e3];lia
  ·rw [ad6]
   have:=tb (j+1)
   exact⟨by lia,by lia⟩
 ·have ks: ∀b u,s.heap.get? b=some u -> h'.get? b=some u:=fun b u hb=> k b u (fun m=> absurd (ay hb) (by rw [bd.mp m];exact cO _)) (aj _ hb)
  rw [ad6,ax,←hl,dO (au _)]
  exact⟨.int is.sum,H,I.un (Un.kept ks) (I.hok.kept ks),⟨_,rfl⟩,q⟩
end L2
namespace PF
open PySem PySem.Spec
open L2
variable[XW]
end PF
namespace PF
open PySem PySem.Spec
open L2
variable[XW]
end PF
namespace PF
open PySem PySem.Spec
open L2
variable[XW]
end PF
namespace PF
open PySem PySem.Spec
open L2
variable[XW]
end PF
namespace L2
open PySem PySem.Spec PyProof.Rows
section
variable{P:aT}{w:aX}{A:bj}{E:af -> ak -> Prop}{s:ak}
structure NAt (b:Bool) (l e i:Addr) (n:Int) (k:Nat) (h:Heap):Prop where
 ne:e≠i
 oe: ∃old,lO h e i n old
 c:v9 b h i l k
theorem a63{e i:Addr}{n:Int}{xs:Array af}{x:af}(N:NAt b l e i n k s.heap)(hl:kr b s.heap l xs)(hx:xs[k]?=some x)(hQ: ∀h' t,m9 h' e i (n+1) x s.heap.objs.size -> v9 b h' i l (k+1) -> h'.get? s.heap.objs.size=some {cls:=.type "tuple",data:=.seq #[.int n s.toks,x]} ->
   (∀c o,c≠e -> c≠i -> s.heap.get? c=some o -> h'.get? c=some o) -> Q (.ref s.heap.objs.size) {s with heap:=h',toks:=t}):
  wpAny (model P w) A (cJ.«enumerate.__next__» ⟨[.ref e],[]⟩) (fun fin s'=> ∃v,fin=.done (.ret v)/\Q v s') E s:=by
 (obtain⟨hp,g,d,tk,os⟩:=s)
 obtain⟨ne,⟨old,he⟩,hc⟩:=N
 (show wpAny _ _ (field (.ref e) 2 >>=_) _ _ _);refine ae (a7 he rfl (x:=.ref i) rfl (ae (ab2 hc hl hx fun h1 c1 e1=> ?_)))
 have e1:bJ i hp h1:=e1
 have he1:lO h1 e i n old:=(e1.2 e ne).trans he
 (show wpAny _ _ (field (.ref e) 3 >>=_) _ _ _);refine ae (a7 he1 rfl (x:=rawInt n) rfl ?_)
 (show wpAny _ _ (field (.ref e) 4 >>=_) _ _ _);refine ae (a7 he1 rfl (x:=.none) rfl ?_)
 (show wpAny _ _ (mkInt n >>=_) _ _ _);refine ae (wpAny_mkInt ?_)
 (show wpAny _ _ (setField (.ref e) 3 (rawInt (n+1))>>=_) _ _ _);refine ae (ci he1 (by simp) fun h2 he2 e2=> ?_)
 have e2:bJ e h1 h2:=e2
 have he2:lO h2 e i (n+1) old:=he2
 (show wpAny _ _ (setField (.ref e) 4 .none >>=_) _ _ _);refine ae (ci he2 (by simp) fun h3 he3 e3=> ?_)
 have e3:bJ e h2 h3:=e3
 have he3:lO h3 e i (n+1) old:=he3
 (show wpAny _ _ (newTuple [.int n tk,x]>>=_) _ _ _);refine ae (lL ?_)
 have he4:lO (h3.push {cls:=.type "tuple",data:=.seq #[.int n tk,x]}) e i (n+1) old:=aj _ he3
 have sz:h3.objs.size=hp.objs.size:=by rw [e3.1,e2.1,e1.1]
 have lt:e < hp.objs.size:=ay he
 have ht4:(h3.push {cls:=.type "tuple",data:=.seq #[.int n tk,x]}).get? hp.objs.size=some {cls:=.type "tuple",data:=.seq #[.int n tk,x]}:=by rw [←sz];exact aA _ rfl
 have k4: ∀c o,c≠e -> c≠i -> hp.get? c=some o -> (h3.push {cls:=.type "tuple",data:=.seq #[.int n tk,x]}).get? c=some o:=fun c o a1 a2 q=> aj _ (e3.extBut _ _ a1 (e2.extBut _ _ a1 (e1.extBut _ _ a2 q)))
 have c4:v9 b (h3.push {cls:=.type "tuple",data:=.seq #[.int n tk,x]}) i l (k+1):=c1.to fun o q=> aj _ (e3.extBut _ _ ne.symm (e2.extBut _ _ ne.symm q))
 generalize (h3.push {cls:=.type "tuple",data:=.seq #[.int n tk,x]})=h4 at he4 ht4 k4 c4⊢
 (show wpAny _ _ (d5 (.ref e)>>=_) _ _ ⟨h4,g,d,tk+1,os⟩);rw [sz]
 refine ae (ae (a7 he4 rfl (x:=.none) rfl (ah ?_)))
 simp only [if_true]
 refine ae (cB (ae (a7 he4 rfl (x:=old) rfl (ae (ci he4 (by simp) fun h5 he5 e5=> ?_)))))
 have e5:bJ e h4 h5:=e5
 have he5:lO h5 e i (n+1) x:=he5
 (show wpAny _ _ (gl (.ref e) (.ref hp.objs.size)>>=_) _ _ ⟨h5,g,d,tk+1,os⟩);refine ae (ae (ci he5 (by simp) fun h6 he6 e6=> ?_))
 have e6:bJ e h5 h6:=e6
 have he6:m9 h6 e i (n+1) x hp.objs.size:=he6
 refine ci he6 (by simp) fun h7 he7 e7=> ?_
 have e7:bJ e h6 h7:=e7
 have he7:m9 h7 e i (n+1) x hp.objs.size:=he7
 have up: ∀c o,c≠e -> h4.get? c=some o -> h7.get? c=some o:=fun c o a1 q=> e7.extBut _ _ a1 (e6.extBut _ _ a1 (e5.extBut _ _ a1 q))
 exact ae (iM (ah ⟨_,rfl,hQ h7 _ he7 (c4.to fun o=> up _ o ne.symm) (up _ _ (dR lt) ht4) fun c o a1 a2 q=> up c o a1 (k4 c o a1 a2 q)⟩))
theorem ay7{e i:Addr}{n:Int}{xs:Array af}{x:af}{Q:Option af -> ak -> Prop}(N:NAt b l e i n k s.heap)(hl:kr b s.heap l xs)(hx:xs[k]?=some x)(hQ: ∀h' t,m9 h' e i (n+1) x s.heap.objs.size -> v9 b h' i l (k+1) -> h'.get? s.heap.objs.size=some {cls:=.type "tuple",data:=.seq #[.int n s.toks,x]} ->
   (∀c o,c≠e -> c≠i -> s.heap.get? c=some o -> h'.get? c=some o) -> Q (some (.ref s.heap.objs.size)) {s with heap:=h',toks:=t}):wpAny (model P w) A (pyNext (.ref e)) Q E s:=
 have hT:s.TypeIs (.ref e) "enumerate":=let ⟨_,h⟩:=N.oe;⟨_,h,rfl⟩
 ae (d7 (br (name:=bg "__next__") hT fH (bu fH hT lA (a63 N hl hx fun h' t a1 a2 a3 a4=> ah (hQ h' t a1 a2 a3 a4)) (kN _))))
theorem a32{e i:Addr}{n:Int}{xs:Array af}{Q:Option af -> ak -> Prop}(hh:A.handled=none)(N:NAt b l e i n k s.heap)(hl:kr b s.heap l xs)(hx:xs[k]?=none)(hQ: ∀h',fj i s.heap h' -> Q none {s with heap:=h'}):wpAny (model P w) A (pyNext (.ref e)) Q E s:=by
 obtain⟨ne,⟨old,he⟩,hc⟩:=N
 (have hT:s.TypeIs (.ref e) "enumerate":=⟨_,he,rfl⟩)
 refine ae (d7 (br (name:=bg "__next__") hT fH (bu fH hT lA ?_ (kN _))))
 (show wpAny _ _ (field (.ref e) 2 >>=_) _ _ _);refine ae (a7 he rfl (x:=.ref i) rfl ?_)
 exact ae (aer hh hc hl hx fun h' x e1 ⟨o,ho,hcl⟩=> ae (eG (T:="StopIteration") (b:=true) ⟨o,ho,hcl⟩ iG (ah (hQ _ e1))))
end
noncomputable def Itn(K:am)(b:Bool)(l:Addr)(n:Int):It:=
 ⟨fun i H=> ∃xs x,SqB K b H l xs/\xs[i]?=some x,
   fun i H v H'=> ∃T,v=.ref T/\ ∀xs,SqB K b H l xs -> ∃x,xs[i]?=some x/\New H T (.tup [.int (n+i),x]) H',
   fun i H=> ∃xs,SqB K b H l xs/\xs.length <=i⟩
theorem aw0{x1:Nat}{n:Int}(l e i:Addr):Turn P w K (.Tuple es x1 pos) (Itn K b l n) [e,i] e (fun k h=> NAt b l e i (n+k) k h) where
 mem:=by simp
 obj:=fun k h ⟨_,⟨old,he⟩,q⟩ c hb=> by
  obtain⟨o1,e1,v1,d1⟩:=q.obj
  (simp only [aw,bc,or_false]at hb)
  rcases hb with rfl|rfl
  ·exact⟨_,he,fun v y=> by cases y⟩
  ·exact⟨_,e1,fun v y=> by rw [d1]at y;cases y⟩
 keep:=fun k h h' ⟨ne,⟨old,he⟩,q⟩ kp=> ⟨ne,⟨old,kp e (by simp) _ he⟩,q.to fun o z=> kp i (by simp) o z⟩
 item:=by
  intro X hP hw hK hc k pins s σ H E I hf st hg
  subst hP hw hK
  obtain⟨xs,x,q1,hx⟩:=hg
  obtain⟨its1,rv1,p1⟩:=I.seqB q1
  obtain⟨u1,hu1,ru1⟩:=rv1.get hx
  have lt: ∀c∈ [e,i],c < s.heap.objs.size:=fun c hb=> by
   obtain⟨_,⟨old,he⟩,q⟩:=st
   obtain⟨o1,e1,_⟩:=q.obj
   (simp only [aw,bc,or_false]at hb)
   rcases hb with rfl|rfl
   ·exact ay he
   ·exact ay e1
  refine ay7 st p1 (x:=u1) (by simpa using hu1) fun h' t a1 a2 a3 kp=> ?_
  refine⟨_,rfl,wpAny_letOwnedTupleGo_enum (s:={s with heap:=h',toks:=t}) a1 fun h2 he2 sb=> ?_⟩
  have I1:Inv X pins σ (upd H s.heap.objs.size (.tup [.int (n+k),x])) {s with heap:=s.heap.push {cls:=.type "tuple",data:=.seq #[.int (n+k) s.toks,u1]},toks:=t}:=
   I.laid (t':=t) (fun c u q=> aj _ q) (au _) ⟨by show 2 <=sizeLine;decide,[.int (n+k) s.toks,u1],.cons ⟨_,rfl⟩ (.cons ru1 .nil),⟨_,aA _ rfl⟩⟩
  have nT: ∀c∈ [e,i],upd H s.heap.objs.size (.tup [.int (n+k),x]) c=none:=fun c hb=> by
   rw [ko (aR (lt c hb))];exact (hf c hb).1
  have I2:=I1.turnedL (h':=h2) (t':=t) (ch:=[e,i]) (fun c o hb q=> by
   have hbe:c≠e:=fun y=> hb (by simp [y])
   rw [sb.2 c hbe]
   by_cases hT:c=s.heap.objs.size
   ·subst hT
    rw [aA _ rfl]at q
    cases q
    exact a3
   ·rw [dH _ _ _ hT]at q
    exact kp c o hbe (fun y=> hb (by simp [y])) q) fun c hb=> ⟨nT c hb,(hf c hb).2⟩
  refine⟨.ref s.heap.objs.size,_,I2,rfl,⟨_,rfl,fun xs' q1'=> ?_⟩,⟨st.ne,⟨u1,?_⟩,a2.to fun o=> sb.extBut _ _ st.ne.symm⟩,nT⟩
  ·rw [I.seqB_inj q1' q1]
   exact⟨x,hx,I.fresh,rfl⟩
  ·have:n+((k+1:Nat):Int)=n+k+1:=by lia
   rw [this];exact he2
 done:=by
  intro X hP hw hK hc k pins s σ H E I hf st hg
  subst hP hw hK
  obtain⟨xs,q1,hx⟩:=hg
  obtain⟨its1,rv1,p1⟩:=I.seqB q1
  have l1':=rv1.length
  exact a32 (I.ok.hd hc) st p1 (by simp;lia) fun h' kp=> ⟨rfl,I.turnedL (t':=s.toks) (ch:=[e,i]) (fun c o hb q=> kp c o (fun y=> hb (by simp [y])) q) hf⟩
 self:=fun _ _ _ _ _ st h=> let ⟨_,he⟩:=st.oe;wpAny_pyIter_enum he h
section
variable{P:aT}{w:aX}{A:bj}{E:af -> ak -> Prop}{s:ak}
def nH(h:Heap)(b:Bool)(l:Addr)(n:Int):Heap:=(h.push {cls:=.type (aep b),data:=.fields #[.ref l,.int 0 0]}).push {cls:=.type "enumerate",data:=.fields #[.none,.bool false,.ref h.objs.size,rawInt n,.none,.none]}
theorem ass(b:Bool)(l:Addr)(xs:Array af):
  Meets (cJ.«enumerate.__new__» ⟨[.type "enumerate",.ref l],[]⟩) (fun _ R s=> kr b s.heap l xs/\R (.ok (.ret (.ref (s.heap.objs.size+1)))) {s with heap:=nH s.heap b l 0}):=
 .of_wp fun prog w A R s h=> by
  obtain⟨hp,g,d,tk,os⟩:=s;obtain⟨h1,h⟩:=h
  have hsub:=sub_enumerate
  have L1:kr b (nu ⟨hp,g,d,tk,os⟩) l xs:=h1
  wp_walk
  (refine wpAny_stack_any fun st=> ah ?_)
  split
  ·rename_i c _ _ _ _ _
   (cases (c==bE "enumerate"))
   ·wp_walk using ain L1
    refine⟨_,rfl,?_⟩
    simp only [a9];exact h
   ·wp_walk using ain L1
    refine⟨_,rfl,?_⟩
    simp only [a9];exact h
  ·wp_walk using ain L1
   refine⟨_,rfl,?_⟩
   simp only [a9];exact h
theorem ayy{n:Int}:NAt b l (h.objs.size+1) h.objs.size n 0 (nH h b l n):=by
 have g2:lO (nH h b l n) (h.objs.size+1) h.objs.size n .none:=by
  have:=aA (h.push {cls:=.type (aep b),data:=.fields #[.ref l,.int 0 0]}) (o:={cls:=.type "enumerate",data:=.fields #[.none,.bool false,.ref h.objs.size,rawInt n,.none,.none]}) rfl
  rw [a9]at this;exact this
 exact⟨by unfold Addr at*;lia,⟨_,g2⟩,axo (aj _ (aA _ rfl))⟩
theorem ayl{xs:Array af}(h1:kr b s.heap l xs)(h: ∀h',NAt b l (s.heap.objs.size+1) s.heap.objs.size 0 0 h' -> (∀c o,s.heap.get? c=some o -> h'.get? c=some o) -> Q (.ref (s.heap.objs.size+1)) {s with heap:=h'}):
  wpAny (model P w) A (call (.type "enumerate") [.ref l]) Q E s:=by
 refine callType_new F.called_enumerate (by decide) (F.typeCall_enumerate_1 _) (F.newCall_enumerate_1 _) (fun obj=> F.args_object_init_2 obj _) F.entry_enumerate_new (ass b l xs) ⟨h1,?_⟩
 have z:=ayy (b:=b) (l:=l) (n:=0) (h:=s.heap)
 refine⟨?_,h _ z fun c o x=> aj _ (aj _ x)⟩
 obtain⟨_,⟨o,q⟩,_⟩:=z
 exact⟨_,q,rfl⟩
end
theorem aof:bo "enumerate"=some (.type "enumerate"):=by decide+kernel
def a94(K:am)(ta:TA):TI:=fun σ H R=> ta σ H fun vs H1=> ∃l xs b,vs=[.ref l]/\SqB K b H1 l xs/\R (Itn K b l 0) H1
theorem a4q{x1:Nat}{a:Expr}{ta:TA}{p:Pos}(hg:Gl X "enumerate")(hm:X.mg "enumerate"=none)(ha:PA X [a] ta)(hs:starEach [a] X.env=[(false,eval a X.env)]:=by rfl):
  PI X (.Tuple es x1 tp) (.Call (.Name "enumerate" p) [a] [] pos) (a94 X.K ta):=by
 intro pins s σ H R I h
 refine Call_ (aco I hg hm aof (dS (thn (ha pos pins s σ H _ I h) fun us s1 ⟨vs,H1,I1,r1,q1⟩=> ?_) hs rfl))
 obtain⟨l,xs,b,e,q1,q⟩:=q1
 subst e
 obtain⟨u,rfl,r⟩:=vals1 r1
 cases r
 obtain⟨its1,rv1,p1⟩:=I1.seqB q1
 refine ayl p1 fun h' Z k=> ?_
 obtain⟨old,he⟩:=Z.oe
 refine wpAny_pyIter_enum (s:={s1 with heap:=h'}) he ?_
 refine⟨s1.heap.objs.size+1,_,_,_,H1,rfl,I1.kept (t':=s1.toks) k,aw0 (n:=0) l _ _,Z,fun b hb=> ?_,q⟩
 have hb':s1.heap.objs.size <=b:=by
  (simp only [aw,bc,or_false]at hb)
  rcases hb with rfl|rfl <;> (unfold Addr at*;lia)
 exact I1.fpOk hb' (I1.hok.fresh hb')
end L2
namespace PF
open PySem PySem.Spec
open L2
variable[XW]
noncomputable def enD:Int -> List ag -> List D
 |_,[]=> []
 |n,x::r=>.tup [.int n,x]::enD (n+1) r
theorem ajv: ∀(xs:List ag) (n:Int) (i:Nat),(enD n xs)[i]?=xs[i]?.map fun x=> D.tup [.int (n+i),x]
 |[],n,i=> by simp [enD]
 |x::r,n,0=> by simp [enD]
 |x::r,n,i+1=> by
  have e:n+1+(i:Int)=n+((i+1:Nat):Int):=by lia
  rw [enD,eR,eR,ajv r (n+1) i,e]
theorem ak7: ∀(xs:List ag) (n:Int),(enD n xs).length=xs.length
 |[],_=> rfl
 |x::r,n=> by rw [enD,aQ,aQ,ak7 r]
def ang(n:Int)(ds:List D)(s:S):R Wk:=match ds with
 | [.ref a]=> match s[a]? with
  |some (.lst es)=> match kq es with
   |some xs=>.ok (enD n xs,some (a,es)) s
   |none=>.bad
  |_=>.bad
 |[a]=> match sqD a with
  |some (_,xs)=>.ok (enD n xs,none) s
  |_=>.bad
 |_=>.bad
def aw3(n:Int)(f:FA):FI:=fun ρ s=> (f ρ s).bind (ang n)
theorem a4o{n:Int}{ds:List D}{Q:It -> Hp -> Prop}(rl:Rel K as H s)(r:RDs K as H vs ds)(h:Dn K (afk K) as H (ang n ds s) Q): ∃l xs b,vs=[.ref l]/\SqB K b H l xs/\Q (Itn K b l n) H:=by
 unfold ang at h
 split at h
 ·rename_i n0
  obtain⟨v,rfl,rv⟩:=r.one
  split at h
  ·rename_i es e
   split at h
   ·rename_i xd px
    cases rv with
    | @ref pp _ l hr=>
     obtain⟨ha,xs,hx,rs⟩:=yx rl hr e
     refine⟨pp,xs,true,rfl,SqL.of hx,Dn.now (Q:=Q) h rl ?_⟩
     intro as2 H2 s2 st2 rl2 so i
     have so':s2[n0]?=some (O.lst es):=so
     obtain⟨q,hq⟩:=rl2.li _ _ so' (by intro z;cases z)
     have e2:=hq
     have em:=zr px
     subst em
     rcases st2.old _ l with z|z
     ·rw [z]at e2
      cases hr q e2
      obtain⟨ys,hy,rs2⟩:=rl2.ob _ _ _ hq so'
      have sq1:SqB K true H2 pp ys:=SqL.of hy
      refine⟨fun hl=> ⟨ys,sq1,by rw [rs2.length,ao];rw [ak7]at hl;exact hl⟩,fun d hd=> ?_⟩
      rw [ajv]at hd
      cases qq:xd[i]? with
      |none=> rw [qq]at hd;cases hd
      |some pr=>
       rw [qq]at hd
       cases hd
       obtain⟨x,hx,rx⟩:=rs2.get (d:=D.da pr) (by rw [aL,qq];rfl)
       refine⟨⟨ys,x,sq1,hx⟩,fun vv H3 hv=> ?_⟩
       obtain⟨T,rfl,hT⟩:=hv
       obtain⟨x',hx',nw⟩:=hT ys sq1
       rw [hx]at hx';cases hx'
       cases rx with
       |da rt=> exact⟨j6 nw,rl2.new nw,.da (.tup (fun z=> rl2.has z nw.no) nw.at (.cons (.int _) (.cons (rt.mono (j6 nw)) .nil)))⟩
     ·rw [z]at e2;cases e2
   ·exact h.elim
  ·exact h.elim
 ·split at h
  ·rename_i d _ b xd ea
   obtain⟨v,rfl,rv⟩:=r.one
   obtain⟨l,xs,rfl,k1,t1⟩:=ajk rv ea
   refine⟨l,xs,_,rfl,k1 as H (Step.refl _ _).toStep0,Dn.now (Q:=Q) h rl ?_⟩
   intro as2 H2 s2 st2 rl2 _ i
   have sq1:=k1 as2 H2 st2
   have u1:=t1.mono0 st2
   refine⟨fun hl=> ⟨xs,sq1,by rw [u1.length];rw [ak7]at hl;exact hl⟩,fun d hd=> ?_⟩
   rw [ajv]at hd
   cases q:xd[i]? with
   |none=> rw [q]at hd;cases hd
   |some pr=>
    rw [q]at hd
    cases hd
    obtain⟨x,hx,rx⟩:=u1.get q
    refine⟨⟨xs,x,sq1,hx⟩,fun vv H3 hv=> ?_⟩
    obtain⟨T,rfl,hT⟩:=hv
    obtain⟨x',hx',nw⟩:=hT xs sq1
    rw [hx]at hx';cases hx'
    exact⟨j6 nw,rl2.new nw,.da (.tup (fun z=> rl2.has z nw.no) nw.at (.cons (.int _) (.cons (rx.mono (j6 nw)) .nil)))⟩
  ·exact h.elim
 ·exact h.elim
theorem a3w{x1:Nat}{a:Expr}{f:FA}{p:Pos}(hm:X.mg "enumerate"=none)(h:RA X [a] f)(hg:Gl X "enumerate":=by rfl)(hs:starEach [a] X.env=[(false,eval a X.env)]:=by rfl):
  RI X (.Tuple es x1 tp) (.Call (.Name "enumerate" p) [a] [] pos) (aw3 0 f):=by
 obtain⟨t,pa,ra⟩:=h.ex
 refine⟨_,a4q hg hm pa hs,fun as σ H ρ s Q rl en h=> ?_⟩
 exact ra as σ H ρ s _ rl en (Dn.bind h fun ds s1 as1 H1 vs st1 rl1 r1 h1=> a4o rl1 r1 h1)
end PF
namespace PF
open PySem PySem.Spec
open PySem.SeqAt
variable[XW]
end PF
namespace PF
open PySem PySem.Spec
open L2
variable[XW]
end PF
namespace PF
open PySem L2
theorem bdh{k:Int}{f:FA}:aw3 k f ρ s=(f ρ s).bind (ang k):=(rfl)
end PF
namespace PF
open PySem PySem.Spec
open L2
noncomputable def aen:List D -> Option (List Int)
 |[]=> some []
 |.da (.int i)::r=> match aen r with
  |some xs=> if 0 <=i/\i <=1000000 then some (i::xs) else none
  |none=> none
 |_=> none
def arb(ds:List D)(s:S):R D:=match ds with
 | [d]=> match toL s d with
  |some xs=> match aen xs with
   |some is=> if is.length <=100000 then .ok (.int is.sum) s else .bad
   |none=>.bad
  |none=>.bad
 |_=>.bad
theorem am5{K:am}{as:As}{H:Hp}: ∀{xs:List V} {ds:List D} {is:List Int},RDs K as H xs ds -> aen ds=some is -> xs=is.map V.int/\ ∀i∈is,0 <=i/\i <=1000000
 |_,_,is,.nil,h=> by cases h;exact⟨rfl,fun i hi=> by cases hi⟩
 | x ::xs,d::ds,is,.cons r rs,h=> by
  unfold aen at h
  split at h
  ·cases‹_::_=_›
  ·rename_i i r' e
   cases e
   split at h
   ·rename_i ys q
    split at h
    ·rename_i hb
     cases h
     obtain⟨e,hh⟩:=am5 rs q
     cases r.int_inv
     refine⟨by rw [e];rfl,fun j hj=> ?_⟩
     rcases aw.mp hj with rfl|hj
     ·exact hb
     ·exact hh j hj
    ·cases h
   ·cases h
  ·cases h
section
variable[XW]{X:Cx}{pos:Pos}
theorem a7n(hc:X.calm=true):CB X (.builtin "sum") arb:=ab5 fun pins sh σ H as s xs ds us Q I rl rs ru h=> by
 unfold arb at h
 split at h
 ·obtain⟨v,rfl,rv⟩:=rs.one
  split at h
  ·rename_i ys e
   split at h
   ·rename_i is q
    split at h
    ·rename_i hz
     obtain⟨p,zs,rfl,hx,rz⟩:=aba rl rv e
     obtain⟨ez,hb⟩:=am5 rz q
     subst ez
     exact au0 hc pins sh σ H _ us Q I ru ⟨p,is,rfl,SqL.of hx,hz,hb,Dn.now (Q:=Q) h rl (.da (.int _))⟩
    ·exact h.elim
   ·exact h.elim
  ·exact h.elim
 ·exact h.elim
noncomputable def aqi(i:Nat)(x:Int)(ρ:En)(d:D)(s:S):R Fl:=match d with
 |.int j=>.ok (.nx (ρ.set i (some (.int (x+j))))) s
 |_=>.bad
def ahv(i:Nat)(fv:FE):FS:=fun ρ s=> match ρ[i]? with
 |some (some (.int x))=> (fv ρ s).bind (aqi i x ρ)
 |_=>.bad
theorem a5p{i:Nat}{x:Str}{fv:FE}{pos':Pos}(hN:X.N.Nodup)(hi:X.N[i]?=some x)(hx:Loc X.env.scope x)(he:RE X e fv)(hf:X.fn x=true\/X.env.scope.names.lookup x=some .local:=by first|exact .inl rfl|exact .inr rfl|assumption):RS X (.AugAssign (.Name x pos') .Add e pos) (ahv i fv):=by
 obtain⟨t,p,r⟩:=he.ex
 refine⟨_,a3i hN hi hx p a4j hf,fun as σ H ρ s D rl en h=> ?_⟩
 unfold ahv at h
 split at h
 ·rename_i j q
  obtain⟨v,hv,rv⟩:=en.get i _ q
  cases rv.int_inv
  refine⟨.int j,hv,r as σ H ρ s _ rl en (Dn.bind h fun d s1 as1 H1 w st1 rl1 r1 h1=> ?_)⟩
  unfold aqi at h1
  split at h1
  ·cases r1.int_inv
   exact⟨j,_,rfl,rfl,Dn.now (b:=FV.nx (σ.set i (some (.int _)))) h1 rl1 (.nx ((en.mono st1).set i (.da (.int _))))⟩
  ·exact h1.elim
 ·exact h.elim
end
theorem a50{i:Nat}{x:Int}{fv:FE}(h:ρ[i]?=some (some (.int x))):ahv i fv ρ s=(fv ρ s).bind (aqi i x ρ):=by unfold ahv;rw [h]
theorem bbp{i:Nat}{x:Int}:aqi i x ρ (.int j) s=.ok (.nx (ρ.set i (some (.int (x+j))))) s:=(rfl)
end PF
namespace ST
open PySem PySem.SetTable
section
variable{α:Type}
noncomputable def liveL(m:Nat)(o:Array (Option Nat)):List (Nat×Nat):=(bn (m+1)).filterMap fun j=> (o.getD j none).map (j,·)
theorem live_ris(m:Nat)(o:Array (Option Nat)):Ris ((liveL m o).map (·.1)):=by
 unfold liveL Ris
 rw [gI,List.pairwise_filterMap]
 refine nC.imp ?_ (List.pairwise_lt_range (n:=m+1))
 intro a b hab x hx y hy
 cases qa:o.getD a none with
 |none=> rw [qa]at hx;cases hx
 | some ka=>
  cases qb:o.getD b none with
  |none=> rw [qb]at hy;cases hy
  |some kb=>
   rw [qa]at hx;rw [qb]at hy
   simp only [ig,ee]at hx hy
   subst hx;subst hy
   exact hab
end
end ST
namespace L2
open PySem PySem.Spec PyProof.Rows
def aey(w:aX)(t:cR):Prop:=t.led= !(w.params.followText "set-order")/\(t.plain=false\/(ST.Ris t.place.toList/\t.dummies= #[]))
theorem aey.x(h:aey w t)(k:Nat):ak4 w k t:=⟨h.1,fun _=> h.2.elim .inl fun z=>.inr z.1⟩
theorem aie{t:cR}(nd:t.dummies= #[]){ha:Nat -> Int}{h:Int}{j:Nat}{d:Option Nat}: ∀(fuel:Nat) (p:SetTable.Probe),p.dummy=none -> lP.go t ha h fuel p=some (.empty j d) -> d=none/\t.slot j=.empty
 |0,_,_,e=> by cases e
 | fuel+1,p,hp,e=> by
  unfold lP.go at e
  split at e
  ·rename_i hs
   cases e
   exact⟨hp,hs⟩
  ·rename_i hs
   unfold SetTable.slot at hs
   dsimp only at hs
   rw [nd,ST.has_nil]at hs
   split at hs
   ·cases hs
   ·cases hs
  ·split at e
   ·cases e
   ·refine aie nd fuel (t.advance p) ?_ e
    exact (ST.adv_dummy t 1 p).trans hp
theorem a15{j:Nat}(h:ST.Ris t.place.toList)(hs:t.slot j=.empty):ST.Ris (SetTable.insertAt t.place (cP t.place j) j).toList:=by
 rw [SetTable.toList_insertAt]
 obtain⟨b1,b2,b3⟩:=ST.below_spec t.place j h
 have gd: ∀(k d:Nat) (hk:k < t.place.size),t.place.getD k d=t.place[k]:=fun k d hk=> by simp [gy,hk]
 have ne: ∀k,(hk:k < t.place.size) -> t.place[k]≠j:=fun k hk z=> by
  have:=ST.below_ix h (i:=k) (j:=j) (by rw [bV hk,z])
  unfold SetTable.slot at hs
  dsimp only at hs
  rw [this,bV hk,z,if_pos (by simp)]at hs
  cases hs
 have sub1:=lQ (gE (cP t.place j) t.place.toList) h
 have sub2:=lQ (List.drop_sublist (cP t.place j) t.place.toList) h
 have lo: ∀a∈t.place.toList.take (cP t.place j),a < j:=fun a ha=> by
  obtain⟨i,hi,rfl⟩:=iu ha
  rw [bX,aK]at hi
  have:=b2 i (by lia)
  rw [gd i _ (by lia)]at this
  simpa using this
 have hi: ∀a∈t.place.toList.drop (cP t.place j),j < a:=fun a ha=> by
  obtain⟨i,hi,rfl⟩:=iu ha
  rw [eI,aK]at hi
  have h3:=b3 (cP t.place j+i) (by lia) (by lia)
  rw [gd _ _ (by lia)]at h3
  have h4:=ne (cP t.place j+i) (by lia)
  simp only [List.getElem_drop,lX]
  lia
 refine l7.mpr ⟨sub1,dt.mpr ⟨hi,sub2⟩,fun a ha b hb=> ?_⟩
 (rcases aw.mp hb with rfl|hb)
 ·exact lo a ha
 ·exact mT (lo a ha) (hi b hb)
theorem a44(T:aey w t)(es:Array (Int×af))(h:Int)(x:af):aey w (layNew t es h x).2.1:=by
 refine⟨(aoz t es h x).trans T.1,?_⟩
 unfold layNew
 cases e:t.freeSlot h with
 |none=> exact .inl rfl
 | some q=>
  obtain⟨sl,wd⟩:=q
  dsimp only
  unfold SetTable.orStandIn
  split
  ·rcases T.2 with z|⟨z1,z2⟩
   ·exact .inl z
   ·refine .inr ?_
    unfold SetTable.freeSlot at e
    split at e
    ·rename_i j d hp
     unfold lP at hp
     obtain⟨rfl,hs⟩:=aie z2 _ _ rfl hp
     simp only [jX,ee,mq]at e
     obtain⟨rfl,_⟩:=e
     refine⟨a15 z1 hs,?_⟩
     show (if SetTable.has t.dummies j then _ else t.dummies)= #[]
     rw [z2,ST.has_nil];rfl
    ·cases e
  ·exact .inl rfl
theorem awy(T:aey w t)(es:Array (Int×af))(wd:Nat):aey w (relayAll t es wd).2.1:=by
 obtain⟨k1,k2⟩:=akx t es wd
 refine⟨k1.trans T.1,?_⟩
 rcases T.2 with z|_
 ·exact .inl (k2 z)
 unfold relayAll
 cases c:t.relaid (es.map (·.1)) wd with
 |none=> exact .inl rfl
 | some q=>
  obtain⟨t',od⟩:=q
  dsimp only
  split
  ·refine .inr ?_
   unfold SetTable.relaid SetTable.laid at c
   cases c2:SetTable.layClean (iT wd - 1) (es.map (·.1)) with
   |none=> rw [c2]at c;cases c
   |some ow=>
    rw [c2]at c
    simp only [mD,fO,Option.pure_def,ee,mq]at c
    obtain⟨rfl,_⟩:=c
    exact⟨by simpa [ST.liveL] using ST.live_ris (iT wd - 1) ow,rfl⟩
  ·exact .inl rfl
def xy(P:aT)(w:aX)(h:Heap)(a:Addr)(S:Int -> Bool)(n:Nat):Prop:=
 ∃o es ep t,h.get? a=some o/\o.ExactSet/\o.data=.set es ep t/\(iB (bZ P w) es.toList/\(∀k,S k=true ↔ ∃e∈es.toList,(bZ P w).is k e.2=true)
  /\es.size < bG/\t.fits es.size=true/\es.size=n)/\aey w t
theorem xy.congr{a:Addr}{S S':Int -> Bool}{n':Nat}(z:xy P w h a S n)(hS: ∀k,S' k=S k)(hn:n'=n):xy P w h a S' n':=by
 subst hn
 obtain⟨o,es,ep,t,e,ex,d,⟨q1,q2,q3⟩,q4⟩:=z
 exact⟨o,es,ep,t,e,ex,d,⟨q1,fun k=> by rw [hS k];exact q2 k,q3⟩,q4⟩
section
variable{prog:aT}{w:aX}{A:bj}{E:af -> ak -> Prop}{s:ak}
theorem asv{a:Addr}{o:Obj}{es:Array (Int×af)}{ep:Nat}(ho:h.get? a=some o)(hex:o.ExactSet)(hd:o.data=.set es ep t){es':Array (Int×af)}{t':cR}{S':Int -> Bool}(q:iB (bZ prog w) es'.toList/\(∀k,S' k=true ↔ ∃e∈es'.toList,(bZ prog w).is k e.2=true)/\es'.size < bG/\t'.fits es'.size=true)(tx:aey w t'):
  (h.update a (ib es' t')).get? a=some {o with data:=.set es' (ep+1) t'}/\xy prog w (h.update a (ib es' t')) a S' es'.size:=by
 obtain⟨g,_⟩:=SetOf_store (knd:=bZ prog w) ho hex hd q.1 q.2.1 q.2.2.1 q.2.2.2
 exact⟨g,_,es',ep+1,t',g,hex,rfl,⟨q.1,q.2.1,q.2.2.1,q.2.2.2,rfl⟩,tx⟩
theorem azr{g:Bool -> Sem Unit}(hg: ∀(b:Bool) (s1:ak) (Q':Unit -> ak -> Prop),Q' () s1 -> wpAny (model prog w) A (g b) Q' E s1){a:Addr}{o:Obj}{es:Array (Int×af)}{ep:Nat}(ho:s.heap.get? a=some o)(hex:o.ExactSet)(hd:o.data=.set es ep t){es1:Array (Int×af)}{t2:cR}{S':Int -> Bool}(q:iB (bZ prog w) es1.toList/\(∀k,S' k=true ↔ ∃e∈es1.toList,(bZ prog w).is k e.2=true)/\es1.size < bG/\t2.fits es1.size=true)(tx:aey w t2){wasDummy:Bool}{R:Option Bool -> ak -> Prop}(h: ∀h',bJ a s.heap h' -> xy prog w h' a S' es1.size -> R (some true) {s with heap:=h'}):
  wpAny (model prog w) A (do
   storeSet a es1 t2
   if (!wasDummy&&t2.tooFull)=true then do g (relayAll t2 es1 (ck es1.size)).2.2;storeSet a (relayAll t2 es1 (ck es1.size)).1 (relayAll t2 es1 (ck es1.size)).2.1;pure (some true) else pure (some true)) R E s:=by
 obtain⟨q1,q2,q3,q4⟩:=q
 refine ae (gG ho hd ?_ (ef q3))
 obtain⟨g1,x1⟩:=asv (w:=w) (prog:=prog) ho hex hd ⟨q1,q2,q3,q4⟩ tx
 have b1:=b8 s.heap a (ib es1 t2)
 split
 ·have p:=relayAll_perm t2 es1 (ck es1.size)
  have f:=relayAll_fits t2 es1 (ck es1.size)
  have tt:=awy tx es1 (ck es1.size)
  revert p f tt
  generalize relayAll t2 es1 (ck es1.size)=Rl
  obtain⟨es2,t3,gv⟩:=Rl
  intro p f tt
  dsimp only at p f tt⊢
  have z:es2.size=es1.size:=by
   have:=p.length_eq
   rwa [aK,aK]at this
  have b2:es2.size < bG:=z▸q3
  refine ae (hg _ _ _ (ae (gG g1 rfl ?_ (ef b2))))
  obtain⟨_,x2⟩:=asv (w:=w) (prog:=prog) (S':=S') g1 hex rfl ⟨q1.perm p,fun k=> (q2 k).trans ⟨fun⟨e,m,y⟩=> ⟨e,p.mem_iff.mpr m,y⟩,fun⟨e,m,y⟩=> ⟨e,p.mem_iff.mp m,y⟩⟩,b2,f⟩ tt
  exact ah (h _ (b1.trans (b8 _ a _)) (z▸x2))
 ·exact ah (h _ b1 x1)
theorem a8q{a:Addr}{S:Int -> Bool}{k:Int}{tk:Tok}{Q:Bool -> ak -> Prop}(hS:xy prog w s.heap a S n)(hroom:n+1 < bG)(h: ∀h',bJ a s.heap h' -> xy prog w h' a (fun y=> S y||decide (y=k)) (if S k then n else n+1) -> Q (!S k) {s with heap:=h'}):
  wpAny (model prog w) A (kA a (.int k tk) ((bZ prog w).hash k)) Q E s:=by
 have hkey:(bZ prog w).is k (.int k tk)=true:=by show fW k (.int k tk)=true;simp [fW]
 obtain⟨o,es,ep,t,ho,hex,hd,⟨hel,hmem,hb,hf,hn⟩,tx⟩:=hS
 have hgw: ∀(b:Bool) {s1:ak} {Q':Unit -> ak -> Prop},Q' () s1 -> wpAny (model prog w) A (match b with|true=> rule "set.scan.the-table-gave-way"|false=> pure ()) Q' E s1:=by
  intro b s1 Q' z
  cases b
  ·exact ah z
  ·exact cB z
 unfold kA setAddHashedIn;refine bC (ae (dE ho hd hf ?_))
 dsimp only
 rw [byScan_of (knd:=bZ prog w) rfl hb hel,if_pos rfl]
 unfold setAddByScan
 refine ae (ae (cB (ae (wpAny_setScan_of hkey ho hd hf hel ?_))))
 cases hr:List.findIdx? (fun e=> (bZ prog w).is k e.2) es.toList with
 | some j=>
  obtain⟨hj,hpj,_⟩:=gN.mp hr;have sk:S k=true:=(hmem k).mpr ⟨es.toList[j],cz hj,hpj⟩
  dsimp only
  refine ah (ah ?_);have z:=h s.heap (jH a s.heap) ⟨o,es,ep,t,ho,hex,hd,⟨hel,fun y=> by
   rw [kX,decide_eq_true_eq,←hmem y]
   exact⟨fun c=> c.elim id (fun e=> e▸sk),.inl⟩,hb,hf,by rw [sk];exact hn⟩,tx⟩
  rw [sk]at z
  exact z
 | none=>
  dsimp only
  have sk:S k=false:=by
   cases c:S k with
   |false=> rfl
   |true=>
    obtain⟨e,m,y⟩:=(hmem k).mp c
    exact Bool.noConfusion (y.symm.trans (jO.mp hr e m))
  have p:=layNew_perm t es ((bZ prog w).hash k) (.int k tk)
  have f:=layNew_fits t es ((bZ prog w).hash k) (.int k tk)
  have ld:=a44 tx es ((bZ prog w).hash k) (.int k tk)
  revert p f ld
  generalize layNew t es ((bZ prog w).hash k) (.int k tk)=L
  obtain⟨es1,t1,wd,gv⟩:=L
  intro p f ld
  dsimp only at p f ld⊢
  rw [jI]at p
  have z1:es1.size=n+1:=by
   have:=p.length_eq
   rw [aK,bv,aK,hn]at this
   exact this
  have b1:es1.size < bG:=z1▸hroom
  have q:iB (bZ prog w) es1.toList/\(∀y,(fun y=> S y||decide (y=k)) y=true ↔ ∃e∈es1.toList,(bZ prog w).is y e.2=true)/\es1.size < bG:=
   ⟨(hel.push hkey rfl).perm p,fun y=> mem_push_iff hkey hmem p y,b1⟩
  have fin: ∀h',bJ a s.heap h' -> xy prog w h' a (fun y=> S y||decide (y=k)) es1.size -> Q true {s with heap:=h'}:=fun h' u v=> by
   have:=h h' u
   rw [sk,if_neg aq,←z1]at this
   exact this v
  refine ae (hgw _ ?_)
  split
  ·refine ae ?_
   rw [lF 8 rfl]
   refine ah (azr (t2:=t1) (fun b s1 Q' z=> ?_) ho hex hd ⟨q.1,q.2.1,q.2.2,f⟩ ld fun h' u v=> ?_)
   ·cases b
    ·exact ah z
    ·exact cB z
   ·dsimp only;exact ah (fin h' u v)
  ·rename_i hpl
   refine ae (ah ?_);simp only [↓reduceIte]
   refine azr (fun b s1 Q' z=> ?_) ho hex hd ⟨q.1,q.2.1,q.2.2,f⟩ ld fun h' u v=> ?_
   ·cases b
    ·exact ah z
    ·exact cB z
   ·dsimp only;exact ah (fin h' u v)
end
section
variable{prog:aT}{w:aX}{A:bj}{R:h8 -> ak -> Prop}{I:Addr}{wr fp:List Addr}{G:Array iz -> Array iz -> Prop}{n:Nat}{P:Nat -> af -> Prop}{St:Nat -> ak -> Prop}
theorem av4(W:WalksS prog w A.in1 I fp wr G n P St)(p:Addr)(hp:p∉fp)(xs:List Int)(hn:xs.length=n)(hval: ∀i v,P i v -> ∃x t,xs[i]?=some x/\v=.int x t)(hb:n+1 < bG):
  ∀(j i:Nat) (s:ak),i+j=n -> St i s -> xy prog w s.heap p (fun y=> decide (y∈jk (xs.take i))) (jk (xs.take i)).length ->
   (∀s',nv (p::wr) G s s' -> xy prog w s'.heap p (fun y=> decide (y∈jk xs)) (jk xs).length -> R (.ok (.ret .none)) s') ->
   codeAny (model prog w) A (.builtin "set.update.loop" ⟨[.ref p,.ref I],[]⟩) R s:=by
 have hpw:p∉wr:=fun z=> hp (W.sub _ z)
 have up: ∀b∈wr,b∈p::wr:=fun b z=> az _ z
 have stays: ∀{s s':ak} {S:Int -> Bool} {m:Nat},nv wr G s s' -> xy prog w s.heap p S m -> xy prog w s'.heap p S m:=fun mv z=> by
  obtain⟨o,es,ep,t,ho,q⟩:=z
  exact⟨o,es,ep,t,mv.heap p _ hpw ho,q⟩
 intro j
 induction j with
 |zero=>
  intro i s hij hst hS hR
  have ei:i=n:=by lia
  subst ei
  refine dC c8 ?_
  rw [dg b7 _]
  refine (show wpAny _ A.in1 (pyNext (.ref I)>>=_) _ _ s from ae (W.done s _ _ hst fun s' mv=> ?_))
  refine ah (hR s' (mv.mono up) ?_)
  have:=stays mv hS
  rw [dO (fB hn)]at this
  exact this
 | succ j ih=>
  intro i s hij hst hS hR
  refine dC c8 ?_
  rw [dg b7 _]
  refine (show wpAny _ A.in1 (pyNext (.ref I)>>=_) _ _ s from ae (W.item i s _ _ (by lia) hst fun v s' hP hst' mv=> ?_))
  obtain⟨x,t,hx,rfl⟩:=hval i v hP
  show wpAny _ A.in1 (holding [dq x t] (setAdd p (.int x t))>>=_) _ _ s'
  refine ae (bC ?_);unfold setAdd
  refine bC (ae ((intKind prog w).pyHash (k:=x) (by show fW x (.int x t)=true;simp [fW]) ?_))
  have few:(jk (xs.take i)).length <=i:=aH (aa7 _).2.2 (by rw [bX];lia)
  refine a8q (s:={s' with toks:=s'.toks+1}) (show xy prog w s'.heap p _ _ from stays mv hS) (by lia) fun h' sb hS2=> ?_
  have et:xs.take (i+1)=xs.take i++ [x]:=by rw [jJ,hx];rfl
  have hS3:xy prog w h' p (fun y=> decide (y∈jk (xs.take (i+1)))) (jk (xs.take (i+1))).length:=by
   refine xy.congr hS2 (fun y=> ?_) ?_
   ·rw [et,ad5]
    by_cases h1:y∈jk (xs.take i)
    ·simp [h1,zn]
    ·by_cases h2:y=x
     ·simp [h1,h2,zn]
     ·simp [h1,h2,zn]
   ·rw [et,ad5]
    by_cases h1:x∈jk (xs.take i)
    ·rw [show k6 (jk (xs.take i)) x=jk (xs.take i) from by unfold k6;rw [if_pos h1]];simp [h1]
    ·rw [show k6 (jk (xs.take i)) x=jk (xs.take i)++ [x] from by unfold k6;rw [if_neg h1]];simp [h1]
  refine ah ⟨fU b7 _,ih (i+1) _ (by lia) (W.frame _ s' _ _ hst' (eE _) fun b hbm o e=> ?_) hS3 fun s'' mv2 hS''=> ?_⟩
  ·rw [sb.2 b (fun z:b=p=> hp (by rw [←z];exact hbm))];exact e
  ·refine hR s'' (Moved.trans W.gtrans ((mv.mono up).then_heap (eE _) fun b o hbm e=> ?_) mv2) hS''
   rw [sb.2 b (fun z:b=p=> hbm (by rw [z];exact aB))];exact e
end
section
variable{prog:aT}{w:aX}{A:bj}{s:ak}{E:af -> ak -> Prop}
theorem alb{a:Addr}{T:String}{oc:Obj}(hh:A.handled=none)(hT:T="list"\/T="tuple")(ho:s.heap.get? a=some oc)(hc:oc.cls=.type T){its:Array af}(hd:oc.data=.seq its k)(xs:List Int)(hx:jm (xs.map V.int) its.toList)(hb:its.size+1 < bG)(h: ∀(h':Heap) (tk:Nat),xy prog w h' s.heap.objs.size (fun y=> decide (y∈jk xs)) (jk xs).length -> (∀b o,b < s.heap.objs.size -> s.heap.get? b=some o -> h'.get? b=some o) -> Q (.ref s.heap.objs.size) {s with heap:=h',toks:=tk}):
  wpAny (model prog w) A (call (.type "set") [.ref a]) Q E s:=by
 have hlen:xs.length=its.size:=by
  have:=hx.length
  rw [ao]at this
  simpa using this
 refine ake hh hT ho hc hd (fun A' I fp wr P St s0 R W hP nf st g0 k=> ?_) h
 obtain⟨led,hled,g0⟩:=g0
 refine av4 W s.heap.objs.size nf xs hlen (fun i v hv=> ?_) hb its.size 0 s0 (by lia) st ⟨_,#[],0,_,g0,⟨rfl,rfl,rfl⟩,rfl,⟨fun e he=> by simp at he,fun k=> by simp [jk],by decide,rfl,rfl⟩,hled,.inr ⟨gF,rfl⟩⟩ k
 have hv:=hP i v hv
 have hi:i < its.size:=(bP.mp hv).1
 have hxi:(xs.map V.int)[i]?=some (.int xs[i]):=by rw [aL,ar (by lia)];rfl
 obtain⟨u,hu,ru⟩:=hx.get hxi
 rw [bL,hv]at hu
 cases hu
 obtain⟨t,e⟩:=(show∃t,v=dq xs[i] t from ru)
 exact⟨xs[i],t,ar (by lia),e⟩
end
def aim(P:aT)(w:aX)(p:Addr)(xs:List Int):HO:=.ext fun h=> xy P w h p (fun y=> decide (y∈jk xs)) (jk xs).length
theorem ayc{p:Addr}{xs:List Int}(hS:xy P w h p (fun y=> decide (y∈jk xs)) (jk xs).length):ke P w H h p (aim P w p xs):=by
 refine⟨hS,?_,fun h1 h2 z k=> ?_⟩
 ·obtain⟨o,_,_,_,e,_⟩:=hS
  exact⟨o,e⟩
 ·obtain⟨o,es,ep,t,e,q⟩:=z
  exact⟨o,es,ep,t,k o e,q⟩
theorem av9(hc:X.calm=true):vb X (.type "set") (fun vs H Q=> ∃a xs,vs=[.ref a]/\(SqL X.K H a (xs.map V.int)\/SqT X.K H a (xs.map V.int))/\xs.length < 4000/\ ∀p H',New H p (aim X.prog X.w p xs) H' -> Q (.ref p) H'):=by
 intro pins s σ H vs us Q I r h
 obtain⟨a,xs,rfl,hS,hl,q⟩:=h
 obtain⟨u,rfl,ru⟩:=vals1 r
 cases ru
 have hh:=I.ok.hd hc
 have fin: ∀(h':Heap) (tk:Nat),xy X.prog X.w h' s.heap.objs.size (fun y=> decide (y∈jk xs)) (jk xs).length -> (∀b o,b < s.heap.objs.size -> s.heap.get? b=some o -> h'.get? b=some o) ->
   EP X pins σ Q (.ref s.heap.objs.size) {s with heap:=h',toks:=tk}:=fun h' tk z k=>
  ⟨.ref s.heap.objs.size,upd H s.heap.objs.size (aim X.prog X.w s.heap.objs.size xs),I.laid (fun b u e=> k b u (ay e) e) (au _) (ayc z),rfl,q _ _ ⟨I.fresh,rfl⟩⟩
 rcases hS with hS|hS
 ·obtain⟨its,rv,⟨o,n,e,c,dd,d⟩,z⟩:=I.list hS
  have hsz:its.toArray.size+1 < bG:=by
   have:=rv.length
   rw [ao]at this
   rw [ax]
   unfold bG
   lia
  exact alb hh (.inl rfl) e c d xs (by simpa using rv) hsz fin
 ·obtain⟨its,rv,⟨o,e,c,n,d⟩,z⟩:=I.tuple hS
  have hsz:its.toArray.size+1 < bG:=by
   have:=rv.length
   rw [ao]at this
   rw [ax]
   unfold bG
   lia
  exact alb hh (.inr rfl) e c d xs (by simpa using rv) hsz fin
end L2
namespace PF
open PySem PySem.Spec
open L2
noncomputable def unI:ag -> Int
 |.int i=> i
 |_=> 0
noncomputable def aig:af -> Int
 |.int i _=> i
 |_=> 0
def xl(ks:List Int):List Int:=(aeo (ks.map aD)).map unI
theorem abp(ks:List Int):zd (ks.map aD)=true:=by
 unfold zd
 simp only [fF,aI,Function.comp,aG]
 exact fun a _=> ⟨rfl,fun b _=> by rw [z9];rfl⟩
theorem ato(ks:List Int):(ks.map aD).all okD=true:=by
 simp only [fF,aI,Function.comp]
 exact fun a _=> rfl
theorem aq9: ∀(l:List ag) (ks:List Int),l.Perm (ks.map aD) -> (l.map unI).map aD=l/\(l.map unI).Perm ks:=fun l ks p=> by
 have h: ∀d∈l,aD (unI d)=d:=fun d hd=> by
  obtain⟨i,_,rfl⟩:=bB.mp (p.mem_iff.mp hd)
  rfl
 refine⟨?_,?_⟩
 ·rw [cu]
  exact (mJ (g:=id) h).trans (List.map_id l)
 ·have:=p.map unI
  rw [cu]at this
  exact this.trans (by rw [show (unI∘aD)=id from rfl,List.map_id])
theorem aha(ks:List Int):(xl ks).map aD=aeo (ks.map aD):=(aq9 _ ks (z3 _)).1
theorem akb(ks:List Int):(xl ks).Perm ks:=(aq9 _ ks (z3 _)).2
theorem avb(ks:List Int):(xl ks).Pairwise (· <= ·):=by
 have h:=af4 (abp ks)
 rw [←aha,ab3,gI]at h
 refine h.imp fun {a b} q=> ?_
 by_cases z:b < a
 ·have e:ltb (.int b) (.int a)=true:=by
   unfold ltb
   rw [z9,decide_eq_true z]
  rw [e]at q
  cases q
 ·lia
theorem a2e{ks js:List Int}(p:js.Perm ks):xl js=xl ks:=by
 unfold xl
 rw [ahs (abp ks) ((z3 _).trans (p.map aD)) (af4 (abp js))]
theorem aix{h:Heap}: ∀(ord:List af),(∀v∈ord,∃i t,v=dq i t) -> cY h ord ((ord.map aig).map aD) []
 |[],_=>.nil
 |v::r,hv=> by
  obtain⟨i,t,rfl⟩:=hv v aB
  exact ReadsAll.cons (.int i t) (aix r fun x hx=> hv x (az _ hx))
theorem abi: ∀(us:List af) (is:List Int),us.length=is.length -> (∀(k:Nat) (u:af),us[k]?=some u -> ∃i t,u=dq i t/\is[k]?=some i) -> jm (is.map V.int) us
 |[],[],_,_=>.nil
 |u::us,i::is,hl,h=> by
  obtain⟨j,t,rfl,e⟩:=h 0 u rfl
  cases e
  exact .cons ⟨t,rfl⟩ (abi us is (by simpa using hl) fun k v hk=> h (k+1) v hk)
theorem amq(hc:X.calm=true)(hu:X.A.units+70 < cLine):vb X (.builtin "sorted") (fun vs H Q=> ∃a xs,vs=[.ref a]/\H a=some (aim X.prog X.w a xs)/\(jk xs).length < 64/\ ∀p H',New H p (.lst ((xl (jk xs)).map V.int)) H' -> Q (.ref p) H'):=by
 intro pins s σ H vs us Q I r h
 obtain⟨a,xs,rfl,e,hl,q⟩:=h
 obtain⟨u,rfl,ru⟩:=vals1 r
 cases ru
 have hh:=I.ok.hd hc
 obtain⟨hx,_,_⟩:=(show ke X.prog X.w H s.heap a (aim X.prog X.w a xs) from I.hok a _ e)
 obtain⟨o,es,ep,t,eo,ex,d,⟨hel,hmem,hb,hf,hn⟩,tx⟩:=hx
 refine asf hu fun R k=> ayo (by exact hh) eo ex d hf hb (tx.x _) fun h' d' tk ord p kp=> ?_
 have al: ∀v∈ord,∃i t,v=dq i t:=fun v hv=> by
  obtain⟨en,m,rfl⟩:=bB.mp (p.mem_iff.mp hv)
  obtain⟨⟨y,hy,_⟩,_⟩:=hel en m
  obtain⟨t,z⟩:=jD (show fW y en.2=true from hy)
  exact⟨y,t,z⟩
 have pk:(ord.map aig).Perm (jk xs):=by
  refine (apw (aa7 xs).1 (fun y hy=> ?_) ?_).symm
  ·obtain⟨en,m,hy'⟩:=(hmem y).mp (by simpa using hy)
   obtain⟨t,z⟩:=jD (show fW y en.2=true from hy')
   exact bB.mpr ⟨en.2,p.mem_iff.mpr (bB.mpr ⟨en,m,rfl⟩),by rw [z];rfl⟩
  ·rw [ao,p.length_eq,ao,aK,hn]
   exact au _
 have ol:ord.length=(jk xs).length:=by have:=pk.length_eq;rwa [ao]at this
 refine k h' d' tk ord [] _ (by rw [ao,ao];lia) (abp _) (ato _) (aix ord al) kp fun h1 h2 d2 tk2 e' p' pm es' k1 k1' g k2=> ?_
 have I1:Inv X pins σ H {s with heap:=h1,toks:=s.toks}:=I.un (Un.kept k1) (I.hok.kept k1)
 have hlt: ∀i∈p',i < ord.length:=fun i hi=> eF.mp (pm.mem_iff.mp hi)
 have pl:p'.length=ord.length:=by rw [pm.length_eq,List.length_range]
 have es2:(p'.map fun i=> (ord.map aig).getD i 0).map aD=(xl (jk xs)).map aD:=by
  rw [←a2e pk,aha,←es',cu]
  refine mJ fun i hi=> ?_
  have:=hlt i hi
  simp [this]
 have es3:(p'.map fun i=> (ord.map aig).getD i 0)=xl (jk xs):=by
  have:=congrArg (bM unI) es2
  simpa [cu,Function.comp_def,unI] using this
 have vp:jm ((xl (jk xs)).map V.int) (p'.map fun i=> ord.getD i aZ):=by
  rw [←es3]
  refine abi _ _ (by simp) fun j u hu'=> ?_
  rw [aL]at hu'
  cases hj:p'[j]? with
  |none=> rw [hj]at hu';cases hu'
  |some i=>
   rw [hj]at hu'
   have hi:=hlt i (bw hj)
   have hu2:u=ord[i]:=by simpa [hi] using hu'.symm
   obtain⟨x,t',hx⟩:=al ord[i] (cz hi)
   refine⟨x,t',hu2.trans hx,?_⟩
   rw [aL,hj]
   simp [hi,hx,aig]
 have I2:Inv X pins σ (upd H h1.objs.size (.lst ((xl (jk xs)).map V.int))) {s with heap:=h2,toks:=tk2}:=I1.laid (t':=tk2) k2 (au _) ⟨by rw [ao,(akb _).length_eq,sizeLine_eq];lia,_,e',vp,by simpa [PyProof.Rows.seqObj] using g⟩
 exact⟨.ref h1.objs.size,_,I2.drew d2,rfl,q _ _ ⟨I1.hok.fresh (au _),rfl⟩⟩
noncomputable def act:List D -> Option (List Int)
 |[]=> some []
 |.da (.int i)::r=> match act r with
  |some xs=> some (i::xs)
  |none=> none
 |_=> none
theorem ama{K:am}{as:As}{H:Hp}: ∀{xs:List V} {ds:List D} {is:List Int},RDs K as H xs ds -> act ds=some is -> xs=is.map V.int
 |_,_,is,.nil,h=> by cases h;rfl
 | x::xs,d::ds,is,.cons r rs,h=> by
  unfold act at h
  split at h
  ·cases‹_::_=_›
  ·rename_i i r' e
   cases e
   split at h
   ·rename_i ys q
    cases h
    rw [ama rs q]
    cases r.int_inv
    rfl
   ·cases h
  ·cases h
theorem akw{K:am}{as:As}{H:Hp}: ∀is:List Int,RDs K as H (is.map V.int) (is.map D.int)
 |[]=>.nil
 |i::r=>.cons (.da (.int i)) (akw r)
def ad2(m:Bool)(ds:List D)(s:S):R D:=match ds with
 |[d]=> match (aek s d).bind act with
  |some is=> if is.length < 4000/\(jk is).length < 64 then vw m ((xl (jk is)).map D.int) s else .bad
  |none=>.bad
 |_=>.bad
section
variable[XW]{X:Cx}
theorem aoa(m:Bool){f:FA}{p1 p2 pos2:Pos}(hc:X.calm=true)(hu:X.A.units+70 < cLine)(hm1:X.mg "sorted"=none)(hm2:X.mg "set"=none)(ha:RA X [e] f)(hg1:Gl X "sorted":=by rfl)(hg2:Gl X "set":=by rfl)(hs:starEach [e] X.env=(false,eval e X.env)::starEach [] X.env:=by rfl)(hs2:starEach [.Call (.Name "set" p2) [e] [] pos2] X.env=(false,eval (.Call (.Name "set" p2) [e] [] pos2) X.env)::starEach [] X.env:=by rfl)(hpl:(backTo pos (starEach [] X.env)).any (·.1)=false:=by rfl)(hpl2:(backTo pos2 (starEach [] X.env)).any (·.1)=false:=by rfl):
  RE X (.Call (.Name "sorted" p1) [.Call (.Name "set" p2) [e] [] pos2] [] pos) (fCB (ad2 m) f):=by
 obtain⟨t,pa,ra⟩:=ha.ex
 have pset:=afy (X:=X) (av9 hc) hg2 hm2 azg pa (pos:=pos2) (p:=p2) (by decide) (by decide) hs hpl2
 have psort:=ahg (X:=X) (amq hc hu) hg1 hm1 avr (agd pset ai1 hs2) (pos:=pos) (p:=p1) (by decide) (by decide) hs2 hpl
 refine⟨_,psort,fun as σ H ρ s Q rl en h=> ?_⟩
 refine ra as σ H ρ s _ rl en (Dn.bind h fun ds s1 as1 H1 vs st1 rl1 r1 h1=> ?_)
 unfold ad2 at h1
 split at h1
 ·obtain⟨v,rfl,rv⟩:=r1.one
  split at h1
  ·rename_i is e
   split at h1
   ·rename_i hz
    cases e2:aek s1 _ with
    |none=> rw [e2]at e;cases e
    |some xs=>
     rw [e2]at e
     obtain⟨p,zs,rfl,sq,rz⟩:=ady rl1 rv e2
     have ez:=ama rz (show act xs=some is from e)
     subst ez
     refine⟨p,is,rfl,sq,hz.1,fun q H2 n2=> ⟨q,is,rfl,n2.at,hz.2,fun r H3 n3=> ?_⟩⟩
     exact aar (Dn.step h1 (j6 n2)) (rl1.new n2) (akw _) n3
   ·exact h1.elim
  ·exact h1.elim
 ·exact h1.elim
end
end PF
namespace Ln
open PySem L2 PF
def top(i:Nat):Stmt:=PySem.Challenge.pw_mannerports_k01_ports_and_parts.main.body.getD i (.Pass ⟨0,0,0,0⟩)
noncomputable abbrev aiu:Stmt:=top 4
noncomputable abbrev ai6:Stmt:=top 5
noncomputable abbrev ah4:Stmt:=top 6
noncomputable abbrev akn:Stmt:=top 10
abbrev abh:Stmt:=top 11
noncomputable abbrev agy:Stmt:=top 20
noncomputable abbrev ak8:Stmt:=top 21
noncomputable abbrev al6:Stmt:=top 22
noncomputable abbrev anc:Stmt:=top 23
abbrev ah3:Stmt:=top 24
noncomputable abbrev aio:Stmt:=top 25
noncomputable abbrev akk:Stmt:=top 26
noncomputable abbrev al7:Stmt:=top 27
noncomputable abbrev al5:Stmt:=top 28
noncomputable abbrev adl:Stmt:=top 29
abbrev abe:Stmt:=top 30
abbrev af0:Stmt:=top 31
abbrev agx:Stmt:=top 32
abbrev afz:Stmt:=top 33
abbrev adw:Stmt:=top 34
abbrev agz:Stmt:=top 36
abbrev agv:Stmt:=top 37
abbrev acr:Stmt:=top 38
abbrev af3:Stmt:=top 39
abbrev agw:Stmt:=top 40
abbrev ah1:Stmt:=top 41
abbrev ad3:Stmt:=top 42
abbrev adi:Stmt:=top 43
abbrev ach:Stmt:=top 44
abbrev acw:Stmt:=top 45
abbrev ad4:Stmt:=top 46
abbrev af5:Stmt:=top 47
abbrev afg:Stmt:=top 48
abbrev ah6:Stmt:=top 49
abbrev adu:Stmt:=top 50
abbrev afq:Stmt:=top 51
abbrev afn:Stmt:=top 52
abbrev afj:Stmt:=top 53
abbrev ab8:Stmt:=top 54
abbrev xb:Str:="MannerError"
abbrev xcs:List Str:=["NoNet"]
abbrev xfl:List Str:=["word","path"]
abbrev adk:Stmt:=a04 (top 1) 0
abbrev ani:Stmt:=a04 (top 2) 0
structure Txt0 (K:am) (mg:Str -> Option af):Prop where
 x:XT K mg xb xcs xfl
 hx_MannerError:HasX K mg "MannerError" "MannerError.__init__" adk ["self","text"]
 hx_NoNet:HasX K mg "NoNet" "NoNet.__init__" ani ["self","word","path"]
 h_is_whole:Has K mg "is_whole" aiu ["thing"]
 h_is_below:Has K mg "is_below" ai6 ["many","thing"]
 h_is_rising:Has K mg "is_rising" ah4 ["things"]
 h_is_port:Has K mg "is_port" akn ["thing"]
 h_are_unlike_ports:Has K mg "are_unlike_ports" abh ["thing"]
 h_is_things:Has K mg "is_things" agy ["thing"]
 h_is_seen:Has K mg "is_seen" ak8 ["thing"]
 h_is_part:Has K mg "is_part" al6 ["things","thing"]
 h_is_net:Has K mg "is_net" anc ["thing"]
 h_right_net:Has K mg "right_net" ah3 ["thing"]
 h_is_thing:Has K mg "is_thing" aio ["things","thing"]
 h_is_held:Has K mg "is_held" akk ["things","thing"]
 h_is_told:Has K mg "is_told" al7 ["things","thing"]
 h_is_knot:Has K mg "is_knot" al5 ["single","several"]
 h_is_flat_part:Has K mg "is_flat_part" adl ["things","thing"]
 h_has_within_shape:Has K mg "has_within_shape" abe ["thing"]
 h_fits_within:Has K mg "fits_within" af0 ["things","part"]
 h_check_net:Has K mg "check_net" agx ["thing","path"]
 h_check_part:Has K mg "check_part" afz ["things","part","path"]
 h_parts_in_all:Has K mg "parts_in_all" adw ["net"]
 h__law_feed:Has K mg "_law_feed" agz ["_law_script"]
 h__law_draw:Has K mg "_law_draw" agv ["_law_feed_here","_law_many"]
 h__law_shuffled:Has K mg "_law_shuffled" acr ["_law_feed_here","_law_some"]
 h__law_ports:Has K mg "_law_ports" af3 ["_law_feed_here","_law_many"]
 h__law_part:Has K mg "_law_part" agw ["_law_feed_here","_law_things","_law_ports_here"]
 h__law_nest:Has K mg "_law_nest" ah1 ["_law_feed_here","_law_deep","_law_things","_law_seen"]
 h__law_is_whole:Has K mg "_law_is_whole" ad3 ["_law_thing"]
 h__law_is_port:Has K mg "_law_is_port" adi ["_law_thing"]
 h__law_are_ports:Has K mg "_law_are_ports" ach ["_law_thing"]
 h__law_are_told:Has K mg "_law_are_told" acw ["_law_things","_law_thing"]
 h__law_is_plain:Has K mg "_law_is_plain" ad4 ["_law_things","_law_part_here"]
 h__law_fault:Has K mg "_law_fault" af5 ["_law_thing","_law_path","_law_deep"]
 h__law_count:Has K mg "_law_count" afg ["_law_net"]
 h__law_bent:Has K mg "_law_bent" ah6 ["_law_feed_here","_law_thing"]
 h__law_is_part:Has K mg "_law_is_part" adu ["_law_things","_law_part_here"]
 h__law_knots:Has K mg "_law_knots" afq ["_law_feed_here"]
 h__law_parts:Has K mg "_law_parts" afn ["_law_feed_here","_law_things"]
 h__law_right:Has K mg "_law_right" afj ["_law_things","_law_thing"]
 h_law:Has K mg "law" ab8 ["_law_script"]
 c_SMALL_LETTERS: ∃t,mg "SMALL_LETTERS"=some (.str "abcdefghijklmnopqrstuvwxyz" t)
 c_MOST_LETTERS: ∃t,mg "MOST_LETTERS"=some (.int 8 t)
 c_MOST_THINGS: ∃t,mg "MOST_THINGS"=some (.int 3 t)
 c_MOST_SEEN: ∃t,mg "MOST_SEEN"=some (.int 6 t)
 c_MOST_ENDS: ∃t,mg "MOST_ENDS"=some (.int 12 t)
 c_MOST_DEEP: ∃t,mg "MOST_DEEP"=some (.int 4 t)
 c_MOST_PARTS: ∃t,mg "MOST_PARTS"=some (.int 120 t)
 c_TWO_PORTS_ALONE:ar8 K mg "TWO_PORTS_ALONE" [.str "both",.str "loose",.str "drain",.str "either"]
 c_HOLDING:ar8 K mg "HOLDING" [.str "place",.str "last"]
 n_len:mg "len"=none
 n_min:mg "min"=none
 n_max:mg "max"=none
 n_repr:mg "repr"=none
 n_sorted:mg "sorted"=none
 n_list:mg "list"=none
 n_tuple:mg "tuple"=none
 n_set:mg "set"=none
 n_range:mg "range"=none
 n_isinstance:mg "isinstance"=none
 n_str:mg "str"=none
 n_int:mg "int"=none
 n_bool:mg "bool"=none
 n_all:mg "all"=none
 n_zip:mg "zip"=none
 n_sum:mg "sum"=none
 n_enumerate:mg "enumerate"=none
 n_ValueError:mg "ValueError"=none
local macro_rules | `(tactic| walk_at $s:str) => do
 let n := s.getString
 unless n.startsWith "ok" do Lean.Macro.throwUnsupported
 let x := (n.drop 2).toString
 let i (p : String) := bT (p ++ x).toName
 let sc := bT `sc
 let hr := bT `hr
 `(tactic| (have $sc:ident := $(i "sc"); exact aeb $(i "T.h_") $sc rfl rfl fun f cdv A outer s H E I hx $hr => by unfold $(i "B"):ident; walk_at "dr"))
local macro_rules | `(tactic| walk_at "cl") => do
 let T := bT `T
 let ns := "ajx axy okis_whole okis_below okis_rising okis_port okare_unlike_ports okis_things okis_seen okis_thing okis_held okis_told okis_knot okis_flat_part okhas_within_shape okfits_within okright_net okis_net okis_part ok_law_feed ok_law_draw ok_law_shuffled ok_law_ports ok_law_part ok_law_is_whole ok_law_is_port ok_law_are_ports ok_law_are_told ok_law_is_plain ok_law_is_part ok_law_knots ok_law_parts ok_law_right"
 let a : io `tactic ← `(tactic| first | assumption | exact $(bT `aod) $T _ | exact $(bT `anl) $T _ | exact $(bT `adx) $T _ | exact $(bT `ok_law_nest) $T _ | exact $(bT `ok_law_fault) $T _ | exact $(bT `ok_law_count) $T _ | exact $(bT `ok_law_bent) $T _)
 let r ← (ns.splitOn " ").foldrM (init := a) fun n (acc : io `tactic) => `(tactic| first | exact $(bT n.toName) $T | $acc:tactic)
 return r
theorem axj:zc X scope [] []:=trivial
theorem au8{ys:List Str}{j:Nat}(h:as7 X scope y j)(k:zc X scope ys js):zc X scope (y::ys) (j::js):=⟨h,k⟩
local macro_rules | `(tactic| walk_at "dr") => do
 let T := bT `T
 let hr := bT `hr
 let sc := bT `sc
 let ns := "j7:_ aud: a88:?? a7y:??? a61:? ado: bcb:_? bbi:??? a9h:_??? a74: bc7:? bbw:?? bbv: a9a:????? bb7:? bb9:? bdf:?? bbx:? bdk:??? bcr:??|ju:?? k8:|xv:?? qx:? ae2:|atl:? ag9:??? ag6:? bbe:??? a5l:??|atb:??? adq:? afw:? a9o:?????|azf:?? a41:? bcm:?? bb3:?|bcl:? bbl:?|adm:????|bal:? baa:|a9e: ba4:?"
 let q ← `(?_)
 let u ← `(_)
 let gs ← (ns.splitOn "|").mapM fun l => do
  let e ← `(tactic| fail)
  (l.splitOn " ").foldrM (init := e) fun x (acc : io `tactic) => do
   let p := x.splitOn ":"
   let f := bT p.head!.toName
   let as := (p.getLast!.toList.map fun c => if c == '?' then q else u).toArray
   if as.isEmpty then `(tactic| first | exact $f | $acc:tactic) else `(tactic| first | refine $f $as* | $acc:tactic)
 let g (i : Nat) : io `tactic := gs.getD i ⟨.missing⟩
 `(tactic|
  ((repeat' first
 | (show RE _ _ _; first
  | $(g 0):tactic
  | refine aem (by walk_at "cl") (($hr).mono (by first | decide | lia)) ?_
  | refine aa5 as0 ($T).n_len als ?_
  | refine aa5 ar5 ($T).n_isinstance ac6 ?_
  | exact ac0 ($T).n_tuple agi
  | refine alr a24 ($T).n_tuple agi ?_
  | refine aa5 (a1u $hr) ($T).n_repr a6j ?_
  | refine azm PySem.F.slot_list_append PySem.F.type_list_append axt ?_ ?_
  | refine aa5 (a80 rfl) ($T).n_all a77 ?_
  | exact ac0 ($T).n_str a7m
  | refine alr (au1 _) ($T).n_list aua ?_
  | exact ac0 ($T).n_int az7
  | refine aa5 (a72 rfl) ($T).n_min a7z ?_
  | exact ac0 ($T).n_bool a5q
  | refine aso rfl ($T).n_len ($T).n_set ?_
  | refine alr a8g ($T).n_int az7 ?_
  | exact abz ($T).c_MOST_LETTERS
  | exact a1g ($T).c_SMALL_LETTERS
  | exact abz ($T).c_MOST_THINGS
  | exact abz ($T).c_MOST_SEEN
  | exact abz ($T).c_MOST_ENDS
  | exact aqc ["place", "last"] ($T).c_HOLDING
  | exact aqc ["both", "loose", "drain", "either"] ($T).c_TWO_PORTS_ALONE
  | exact abz ($T).c_MOST_PARTS
  | refine aax (by walk_at "cl") (($hr).mono (by first | decide | lia)) ?_
  | refine alr (au1 true) ($T).n_list aua ?_
  | refine azm PySem.F.slot_list_pop PySem.F.type_list_pop a2c ?_ ?_
  | refine aa5 (a85 rfl) ($T).n_max a8j ?_
  | refine aoa false rfl (u70 $hr) ($T).n_sorted ($T).n_set ?_
  | refine aa5 (a7n rfl) ($T).n_sum a7s ?_
  | refine' azu _ (own := [_]) (caps := _) _ _ _ _ _ _ _ _ _ _ _
  | refine' azu _ (own := [_, _]) (caps := _) _ _ _ _ _ _ _ _ _ _ _)
 | (show RA _ _ _; first
  | $(g 1):tactic
  | exact atc rfl)
 | (show RSs _ _ _; first
  | $(g 2):tactic)
 | (show RS _ _ _; first
  | refine' avl _ (own := [_]) (caps := _) _ _ _ _ _ _ _ _ _ _ _ _ _ _ _
  | $(g 3):tactic
  | refine ans ?_ rfl (by first | exact dB rfl | exact fD rfl) ?_
  | refine at5 rfl ?_ ?_ ?_
  | refine a5p ?_ rfl (by first | exact dB rfl | exact fD rfl) ?_
  | refine aas ($T).x rfl ?_)
 | (show RT _ _ _; first
  | $(g 4):tactic
  | refine RW.rt ?_)
 | (show RW _ _ _; first
  | $(g 5):tactic)
 | (show RI _ _ _ _; first
  | $(g 6):tactic
  | refine a6b ($T).n_range ?_
  | refine a1f ($T).n_zip ?_)
 | (show RG _ _ _; first
  | $(g 7):tactic
  | refine azy rfl ?_ ?_
  | refine az9 rfl ?_ ?_ ?_)
 | (show ROp _ _ _; first
  | $(g 8):tactic)
 | (show RIfs _ _ _; first
  | $(g 9):tactic)
 | (show Op2 _ _ _; with_reducible first | refine a8x ?_ | refine ba2 ?_ | refine a6q ?_ | exact a51 false | refine a3t ?_ | refine a2j ?_ | exact azb _ | exact a76 | exact a5c | exact ba1 | exact a7g | exact a8r | exact a1e | exact a99 | exact a98 | exact a7a | exact azt | exact a86 | exact a82)
 | (show _ < cLine; first | exact u64 $hr | exact u65 $hr | exact u66 $hr | exact u70 $hr)
 | exact dB ⟨rfl, rfl⟩
 | exact axj
 | refine' au8 ⟨rfl, by first | exact fD (dB rfl) | exact dB rfl | exact fD (fD rfl), rfl, rfl⟩ _
 | (show _ = _; exact rfl)
 | (show Loc _ _; first | exact dB rfl | exact fD rfl)
 | (show _ \/ _; first | exact dB rfl | exact fD rfl)
 | (intro _ _ _ _ _ _; show RE _ _ _)
 | (intro _ _ _ _; show RG _ _ _)
 | (intro _ _ _ _ _ _; show RIfs _ _ _)
 | (intro _ _ _ _; show RI _ _ _ _)); all_goals first | exact ($sc).nd | exact (show (_ ++ _ : List Str).Nodup by decide +kernel)))
variable{P:aT}{w:aX}{K:am}{mg:Str -> Option af}{base:Heap}
def ald:FS:=
  (xa (fCB (af2 xb xcs) (ja (jb 0) (ja (jb 1) jc))))
def ya:FF:=jx 2 ald
theorem ajs:FnScope ["self","text"] ["self","text"] (je adk):=⟨rfl,rfl,rfl,by decide+kernel,rfl,by decide+kernel,by decide+kernel⟩
theorem ajx(T:Txt0 K mg):InitX P w K mg base "MannerError" 1 2 ya:=by
 exact atm (k:=0) T.hx_MannerError ajs rfl rfl (fun f cdv A outer s H E I hx hr=>
   (qx (ag6 (awv T.x T.n_ValueError (ju (j7 0) (ju (j7 1) k8))))))
def ajm:FS:=
  (jf (xa (jd 2 ya (ja (jb 0) (ja (fC (.da (.str "this is no net"))) jc))))
  (jf (ai3 xb xcs xfl "word" (jb 0) (jb 1))
  (ai3 xb xcs xfl "path" (jb 0) (jb 2))))
def v7:FF:=jx 3 ajm
theorem a22{a2:D}:v7 [a0,a1,a2] s=(ajm [some a0,some a1,some a2] s).bind jn:=rfl
theorem awg:FnScope ["self","word","path"] ["self","word","path"] (je ani):=⟨rfl,rfl,rfl,by decide+kernel,rfl,by decide+kernel,by decide+kernel⟩
theorem axy(T:Txt0 K mg):InitX P w K mg base "NoNet" 3 3 v7:=by
 have ciMannerError:=ajx (P:=P) (w:=w) (base:=base) T
 exact atm (k:=2) T.hx_NoNet awg rfl rfl (fun f cdv A outer s H E I hx hr=>
   (xv (ag6 (ayq ciMannerError (hr.mono (by decide)) (ju (j7 0) (ju ado k8))))
   (xv (ap9 T.x (j7 0) (j7 1))
   (qx (ap9 T.x (j7 0) (j7 2))))))
def Bis_whole:FS:=
  (jh (xh (fCB ku (ja (jb 0) (ja (fC (.ty "int")) jc))) (awl (fCB ku (ja (jb 0) (ja (fC (.ty "bool")) jc))))))
def abc:FF:=jx 1 Bis_whole
theorem atr:abc [a0] s=(Bis_whole [some a0] s).bind jn:=rfl
theorem scis_whole:FnScope ["thing"] ["thing"] (je aiu):=⟨rfl,rfl,rfl,by decide+kernel,rfl,by decide+kernel,by decide+kernel⟩
theorem okis_whole(T:Txt0 K mg):CalF P w K mg base "is_whole" 1 1 abc:=by walk_at "okis_whole"
def Bis_below:FS:=
  (jh (xh (jd 1 abc (ja (jb 1) jc)) (v0 gLe gLt (fC (.da (.int 0))) (jb 1) (jb 0))))
def acs:FF:=jx 2 Bis_below
theorem auf:acs [a0,a1] s=(Bis_below [some a0,some a1] s).bind jn:=rfl
theorem scis_below:FnScope ["many","thing"] ["many","thing"] (je ai6):=⟨rfl,rfl,rfl,by decide+kernel,rfl,by decide+kernel,by decide+kernel⟩
theorem okis_below(T:Txt0 K mg):CalF P w K mg base "is_below" 2 2 acs:=by walk_at "okis_below"
def Bis_rising:FS:=
  (jh (fCB aff (ja (fLc false [] 2 (aql (ja (jb 0) (ja (fSl false (jb 0) (kh (fC (.da (.int 1)))) fNo) jc))) (.t2 (.nm 0) (.nm 1)) acd (fOp aqg (jb 0) (jb 1))) jc)))
def abw:FF:=jx 1 Bis_rising
theorem aqv:abw [a0] s=(Bis_rising [some a0] s).bind jn:=rfl
theorem scis_rising:FnScope ["things"] ["things"] (je ah4):=⟨rfl,rfl,rfl,by decide+kernel,rfl,by decide+kernel,by decide+kernel⟩
theorem okis_rising(T:Txt0 K mg):CalF P w K mg base "is_rising" 1 1 abw:=by walk_at "okis_rising"
def Bis_port:FS:=
  (jf (jp (qz (jv (j2 (fCB ku (ja (jb 0) (ja (fC (.ty "str")) jc))))) (jv (ji (v0 gLe gLe (fC (.da (.int 1))) (fCB jr (ja (jb 0) jc)) (fC (.da (.int 8))))))) (jh (fC (.da (.bool false)))) jl)
  (jh (fCB aff (ja (fLc false [] 1 (ar4 (jb 0)) (.nm 0) acd (fOp arx (jb 0) (fC (.da (.str "abcdefghijklmnopqrstuvwxyz"))))) jc))))
def ac9:FF:=jx 1 Bis_port
theorem awj:ac9 [a0] s=(Bis_port [some a0] s).bind jn:=rfl
theorem scis_port:FnScope ["thing"] ["thing"] (je akn):=⟨rfl,rfl,rfl,by decide+kernel,rfl,by decide+kernel,by decide+kernel⟩
theorem okis_port(T:Txt0 K mg):CalF P w K mg base "is_port" 1 1 ac9:=by walk_at "okis_port"
def Bare_unlike_ports:FS:=
  (jf (jp (qz (jv (j2 (fCB ku (ja (jb 0) (ja (fC (.ty "tuple")) jc))))) (jv (j2 (fCB aff (ja (fLc false [] 1 (fIt (jb 0)) (.nm 0) acd (jd 1 ac9 (ja (jb 0) jc))) jc))))) (jh (fC (.da (.bool false)))) jl)
  (jh (fOp gEq (fCB ae3 (ja (jb 0) jc)) (fCB jr (ja (jb 0) jc)))))
def ki:FF:=jx 1 Bare_unlike_ports
theorem agt:ki [a0] s=(Bare_unlike_ports [some a0] s).bind jn:=rfl
theorem scare_unlike_ports:FnScope ["thing"] ["thing"] (je abh):=⟨rfl,rfl,rfl,by decide+kernel,rfl,by decide+kernel,by decide+kernel⟩
theorem okare_unlike_ports(T:Txt0 K mg):CalF P w K mg base "are_unlike_ports" 2 1 ki:=by walk_at "okare_unlike_ports"
def Bis_things:FS:=
  (jh (xh (jd 1 abc (ja (jb 0) jc)) (v0 gLe gLe (fC (.da (.int 1))) (jb 0) (fC (.da (.int 3))))))
def abu:FF:=jx 1 Bis_things
theorem asa:abu [a0] s=(Bis_things [some a0] s).bind jn:=rfl
theorem scis_things:FnScope ["thing"] ["thing"] (je agy):=⟨rfl,rfl,rfl,by decide+kernel,rfl,by decide+kernel,by decide+kernel⟩
theorem okis_things(T:Txt0 K mg):CalF P w K mg base "is_things" 2 1 abu:=by walk_at "okis_things"
def Bis_seen:FS:=
  (jh (xh (jd 1 ki (ja (jb 0) jc)) (fOp gLe (fCB jr (ja (jb 0) jc)) (fC (.da (.int 6))))))
def aeh:FF:=jx 1 Bis_seen
theorem ay4:aeh [a0] s=(Bis_seen [some a0] s).bind jn:=rfl
theorem scis_seen:FnScope ["thing"] ["thing"] (je ak8):=⟨rfl,rfl,rfl,by decide+kernel,rfl,by decide+kernel,by decide+kernel⟩
theorem okis_seen(T:Txt0 K mg):CalF P w K mg base "is_seen" 3 1 aeh:=by walk_at "okis_seen"
def Bis_thing:FS:=
  (jh (jd 2 acs (ja (jb 0) (ja (jb 1) jc))))
def abm:FF:=jx 2 Bis_thing
theorem aum:abm [a0,a1] s=(Bis_thing [some a0,some a1] s).bind jn:=rfl
theorem scis_thing:FnScope ["things","thing"] ["things","thing"] (je aio):=⟨rfl,rfl,rfl,by decide+kernel,rfl,by decide+kernel,by decide+kernel⟩
theorem okis_thing(T:Txt0 K mg):CalF P w K mg base "is_thing" 3 2 abm:=by walk_at "okis_thing"
def Bis_held:FS:=
  (jh (fOr (fOp gIs (jb 1) (fC (.da (.none)))) (jd 2 abm (ja (jb 0) (ja (jb 1) jc)))))
def aei:FF:=jx 2 Bis_held
theorem ax4:aei [a0,a1] s=(Bis_held [some a0,some a1] s).bind jn:=rfl
theorem scis_held:FnScope ["things","thing"] ["things","thing"] (je akk):=⟨rfl,rfl,rfl,by decide+kernel,rfl,by decide+kernel,by decide+kernel⟩
theorem okis_held(T:Txt0 K mg):CalF P w K mg base "is_held" 4 2 aei:=by walk_at "okis_held"
def Bis_told:FS:=
  (jf (jp (qz (jv (j2 (fCB ku (ja (jb 1) (ja (fC (.ty "tuple")) jc))))) (jv (j2 (fCB aff (ja (fLc false [0] 1 (fIt (jb 1)) (.nm 0) acd (jd 2 abm (ja (jb 1) (ja (jb 0) jc)))) jc))))) (jh (fC (.da (.bool false)))) jl)
  (jh (jd 1 abw (ja (jb 1) jc))))
def aed:FF:=jx 2 Bis_told
theorem aw2:aed [a0,a1] s=(Bis_told [some a0,some a1] s).bind jn:=rfl
theorem scis_told:FnScope ["things","thing"] ["things","thing"] (je al7):=⟨rfl,rfl,rfl,by decide+kernel,rfl,by decide+kernel,by decide+kernel⟩
theorem okis_told(T:Txt0 K mg):CalF P w K mg base "is_told" 4 2 aed:=by walk_at "okis_told"
def Bis_knot:FS:=
  (jf (jp (qz (jv (j2 (fCB ku (ja (jb 1) (ja (fC (.ty "tuple")) jc))))) (jv (ji (v0 gLe gLe (fC (.da (.int 1))) (fCB jr (ja (jb 1) jc)) (fC (.da (.int 12))))))) (jh (fC (.da (.bool false)))) jl)
  (jh (jd 1 ki (ja (fOp (jo false) (jj (ja (jb 0) jc)) (jb 1)) jc))))
def acb:FF:=jx 2 Bis_knot
theorem ayw:acb [a0,a1] s=(Bis_knot [some a0,some a1] s).bind jn:=rfl
theorem scis_knot:FnScope ["single","several"] ["single","several"] (je al5):=⟨rfl,rfl,rfl,by decide+kernel,rfl,by decide+kernel,by decide+kernel⟩
theorem okis_knot(T:Txt0 K mg):CalF P w K mg base "is_knot" 3 2 acb:=by walk_at "okis_knot"
def Bis_flat_part:FS:=
  (jf (jp (qz (jv (j2 (fCB ku (ja (jb 1) (ja (fC (.ty "tuple")) jc))))) (jv (ji (v0 gLe gLe (fC (.da (.int 3))) (fCB jr (ja (jb 1) jc)) (fC (.da (.int 4))))))) (jh (fC (.da (.bool false)))) jl)
  (jf (jw 2 (fOp gIx (jb 1) (fC (.da (.int 0)))))
  (jf (jp (ji (fOp gEq (fCB jr (ja (jb 1) jc)) (fC (.da (.int 4))))) (jf (jp (jv (j2 (jd 1 ki (ja (fSl false (jb 1) (kh (fC (.da (.int 1)))) (kh (fC (.da (.int 3))))) jc)))) (jh (fC (.da (.bool false)))) jl)
  (jf (jp (ji (fOp gIn (jb 2) (fC (.con (bM aF ["place","last"]))))) (jh (jd 2 aei (ja (jb 0) (ja (fOp gIx (jb 1) (fC (.da (.int 3)))) jc)))) jl)
  (jh (xh (fOp gEq (jb 2) (fC (.da (.str "only")))) (jd 2 aed (ja (jb 0) (ja (fOp gIx (jb 1) (fC (.da (.int 3)))) jc))))))) jl)
  (jf (jp (ji (fOp gEq (jb 2) (fC (.da (.str "copy"))))) (jh (jd 2 acb (ja (fOp gIx (jb 1) (fC (.da (.int 1)))) (ja (fOp gIx (jb 1) (fC (.da (.int 2)))) jc)))) jl)
  (jf (jp (ji (fOp gEq (jb 2) (fC (.da (.str "merge"))))) (jh (jd 2 acb (ja (fOp gIx (jb 1) (fC (.da (.int 2)))) (ja (fOp gIx (jb 1) (fC (.da (.int 1)))) jc)))) jl)
  (jh (xh (fOp gIn (jb 2) (fC (.con (bM aF ["both","loose","drain","either"])))) (jd 1 ki (ja (fSl false (jb 1) (kh (fC (.da (.int 1)))) fNo) jc)))))))))
def vf:FF:=jx 3 Bis_flat_part
theorem abq:vf [a0,a1] s=(Bis_flat_part [some a0,some a1,none] s).bind jn:=rfl
theorem scis_flat_part:FnScope ["things","thing","word"] ["things","thing"] (je adl):=⟨rfl,rfl,rfl,by decide+kernel,rfl,by decide+kernel,by decide+kernel⟩
theorem okis_flat_part(T:Txt0 K mg):CalF P w K mg base "is_flat_part" 5 2 vf:=by walk_at "okis_flat_part"
def Bhas_within_shape:FS:=
  (jf (jp (qz (jv (j2 (fCB ku (ja (jb 0) (ja (fC (.ty "tuple")) jc))))) (ji (fOp gNe (fCB jr (ja (jb 0) jc)) (fC (.da (.int 3)))))) (jh (fC (.da (.bool false)))) jl)
  (jh (xh (fOp gEq (fOp gIx (jb 0) (fC (.da (.int 0)))) (fC (.da (.str "net")))) (jd 1 ki (ja (fOp gIx (jb 0) (fC (.da (.int 2)))) jc)))))
def vi:FF:=jx 1 Bhas_within_shape
theorem agr:vi [a0] s=(Bhas_within_shape [some a0] s).bind jn:=rfl
theorem schas_within_shape:FnScope ["thing"] ["thing"] (je abe):=⟨rfl,rfl,rfl,by decide+kernel,rfl,by decide+kernel,by decide+kernel⟩
theorem okhas_within_shape(T:Txt0 K mg):CalF P w K mg base "has_within_shape" 3 1 vi:=by walk_at "okhas_within_shape"
def Bfits_within:FS:=
  (jf (ar0 (.t3 (.nm 2) (.nm 3) (.nm 4)) (fOp gIx (jb 1) (fC (.da (.int 1)))))
  (jh (xh (fOp gEq (jb 2) (jb 0)) (fOp gEq (fCB jr (ja (jb 3) jc)) (fCB jr (ja (fOp gIx (jb 1) (fC (.da (.int 2)))) jc))))))
def y0:FF:=jx 5 Bfits_within
theorem ann:y0 [a0,a1] s=(Bfits_within [some a0,some a1,none,none,none] s).bind jn:=rfl
theorem scfits_within:FnScope ["things","part","inner_things","seen","parts"] ["things","part"] (je af0):=⟨rfl,rfl,rfl,by decide+kernel,rfl,by decide+kernel,by decide+kernel⟩
theorem okfits_within(T:Txt0 K mg):CalF P w K mg base "fits_within" 1 2 y0:=by walk_at "okfits_within"
def y6(kg kl:FF):FS:=
  (jf (jp (qz (jv (j2 (fCB ku (ja (jb 0) (ja (fC (.ty "tuple")) jc))))) (qz (ji (fOp gNe (fCB jr (ja (jb 0) jc)) (fC (.da (.int 3))))) (ji (fOp gGe (fCB jr (ja (jb 1) jc)) (fC (.da (.int 4))))))) (aa6 xb xcs (yu "NoNet" 3 v7 (ja (fC (.da (.str "net"))) (ja (jb 1) jc)))) jl)
  (jf (ar0 (.t3 (.nm 2) (.nm 3) (.nm 4)) (jb 0))
  (jf (jp (jv (j2 (jd 1 abu (ja (jb 2) jc)))) (aa6 xb xcs (yu "NoNet" 3 v7 (ja (fC (.da (.str "things"))) (ja (jb 1) jc)))) jl)
  (jf (jp (jv (j2 (jd 1 aeh (ja (jb 3) jc)))) (aa6 xb xcs (yu "NoNet" 3 v7 (ja (fC (.da (.str "seen"))) (ja (jb 1) jc)))) jl)
  (jf (jp (jv (j2 (fCB ku (ja (jb 4) (ja (fC (.ty "tuple")) jc))))) (aa6 xb xcs (yu "NoNet" 3 v7 (ja (fC (.da (.str "parts"))) (ja (jb 1) jc)))) jl)
  (zq (aw3 0 (ja (jb 4) jc)) (.t2 (.nm 5) (.nm 6)) (xa (jd 3 kl (ja (jb 2) (ja (jb 6) (ja (fOp (jo false) (jb 1) (jj (ja (jb 5) jc))) jc)))))))))))
def zg(kg kl:FF):FS:=
  (jf (jp (j2 (jd 1 vi (ja (jb 1) jc))) (jf (xa (jd 2 kg (ja (fOp gIx (jb 1) (fC (.da (.int 1)))) (ja (jb 2) jc))))
  (jw 3 (jd 2 y0 (ja (jb 0) (ja (jb 1) jc))))) (jw 3 (jd 2 vf (ja (jb 0) (ja (jb 1) jc)))))
  (jp (jv (j2 (jb 3))) (aa6 xb xcs (yu "NoNet" 3 v7 (ja (fC (.da (.str "part"))) (ja (jb 2) jc)))) jl))
def y8:Nat -> FF×FF
 |0=> (afr,afr)
 |n+1=> (jx 7 (y6 (y8 n).1 (y8 n).2),jx 4 (zg (y8 n).1 (y8 n).2))
def kg(n:Nat):FF:=(y8 n).1
def kl(n:Nat):FF:=(y8 n).2
theorem asb:kg (n+1) [a0,a1] s=(y6 (kg n) (kl n) [some a0,some a1,none,none,none,none,none] s).bind jn:=rfl
theorem xf:FnScope ["thing","path","things","seen","parts","number","part"] ["thing","path"] (je agx):=⟨rfl,rfl,rfl,by decide+kernel,rfl,by decide+kernel,by decide+kernel⟩
theorem aog{a2:D}:kl (n+1) [a0,a1,a2] s=(zg (kg n) (kl n) [some a0,some a1,some a2,none] s).bind jn:=rfl
theorem aaf:FnScope ["things","part","path","right"] ["things","part","path"] (je afz):=⟨rfl,rfl,rfl,by decide+kernel,rfl,by decide+kernel,by decide+kernel⟩
theorem ad7(T:Txt0 K mg): ∀n:Nat,CalF P w K mg base "check_net" (6+n) 2 (kg n)/\CalF P w K mg base "check_part" (6+n) 3 (kl n)
 |0=> ⟨(ab1 (k:=5) T.h_check_net xf rfl),(ab1 (k:=5) T.h_check_part aaf rfl)⟩
 | n+1=> by
  have ciNoNet:=axy (P:=P) (w:=w) (base:=base) T
  have cis_things:=okis_things (P:=P) (w:=w) (base:=base) T
  have cis_seen:=okis_seen (P:=P) (w:=w) (base:=base) T
  have cis_flat_part:=okis_flat_part (P:=P) (w:=w) (base:=base) T
  have chas_within_shape:=okhas_within_shape (P:=P) (w:=w) (base:=base) T
  have cfits_within:=okfits_within (P:=P) (w:=w) (base:=base) T
  obtain⟨ihcheck_net,ihcheck_part⟩:=ad7 T n
  exact⟨aeb (k:=6+n) T.h_check_net xf rfl rfl (fun f cdv A outer s H E I hx hr=>
   (xv (ag9 (RW.rt (azf (afw (adq (aa5 ar5 T.n_isinstance ac6 (ju (j7 0) (ju (ac0 T.n_tuple agi) k8))))) (azf (atb (a3t (u64 hr)) (aa5 as0 T.n_len als (ju (j7 0) k8)) aud) (a41 (atb a5c (aa5 as0 T.n_len als (ju (j7 1) k8)) (abz T.c_MOST_DEEP)))))) (qx (aas T.x rfl (aax ciNoNet (hr.mono (by first|decide|lia)) (ju ado (ju (j7 1) k8))))) ae2)
   (xv (a5l (j7 0) (az9 rfl (adm (i:=2) xf.nd rfl (dB rfl)) (adm (i:=3) xf.nd rfl (dB rfl)) (adm (i:=4) xf.nd rfl (dB rfl))))
   (xv (ag9 (afw (adq (aem cis_things (hr.mono (by lia)) (ju (j7 2) k8)))) (qx (aas T.x rfl (aax ciNoNet (hr.mono (by first|decide|lia)) (ju ado (ju (j7 1) k8))))) ae2)
   (xv (ag9 (afw (adq (aem cis_seen (hr.mono (by lia)) (ju (j7 3) k8)))) (qx (aas T.x rfl (aax ciNoNet (hr.mono (by first|decide|lia)) (ju ado (ju (j7 1) k8))))) ae2)
   (xv (ag9 (afw (adq (aa5 ar5 T.n_isinstance ac6 (ju (j7 4) (ju (ac0 T.n_tuple agi) k8))))) (qx (aas T.x rfl (aax ciNoNet (hr.mono (by first|decide|lia)) (ju ado (ju (j7 1) k8))))) ae2)
   (qx (at5 rfl (a3w T.n_enumerate (ju (j7 4) k8)) (azy rfl (adm (i:=5) xf.nd rfl (dB rfl)) (adm (i:=6) xf.nd rfl (dB rfl))) (qx (ag6 (aem ihcheck_part (hr.mono (by lia)) (ju (j7 2) (ju (j7 6) (ju (a7y (azb false) (j7 1) (a61 (ju (j7 5) k8))) k8)))))))))))))),aeb (k:=6+n) T.h_check_part aaf rfl rfl (fun f cdv A outer s H E I hx hr=>
   (xv (ag9 (adq (aem chas_within_shape (hr.mono (by lia)) (ju (j7 1) k8))) (xv (ag6 (aem ihcheck_net (hr.mono (by lia)) (ju (a88 (j7 1) aud) (ju (j7 2) k8))))
   (qx (ans (i:=3) aaf.nd rfl (dB rfl) (aem cfits_within (hr.mono (by lia)) (ju (j7 0) (ju (j7 1) k8)))))) (qx (ans (i:=3) aaf.nd rfl (dB rfl) (aem cis_flat_part (hr.mono (by lia)) (ju (j7 0) (ju (j7 1) k8))))))
   (qx (ag9 (afw (adq (j7 3))) (qx (aas T.x rfl (aax ciNoNet (hr.mono (by first|decide|lia)) (ju ado (ju (j7 2) k8))))) ae2))))⟩
theorem aod(T:Txt0 K mg)(n:Nat):CalF P w K mg base "check_net" (6+n) 2 (kg n):=(ad7 T n).1
theorem anl(T:Txt0 K mg)(n:Nat):CalF P w K mg base "check_part" (6+n) 3 (kl n):=(ad7 T n).2
def zj(km:FF):FS:=
  (jf (jw 1 (fCB jr (ja (fOp gIx (jb 0) (fC (.da (.int 2)))) jc)))
  (jf (zq (fIt (fOp gIx (jb 0) (fC (.da (.int 2))))) (.nm 2) (jp (ji (fOp gEq (fOp gIx (jb 2) (fC (.da (.int 0)))) (fC (.da (.str "net"))))) (ahv 1 (jd 1 km (ja (fOp gIx (jb 2) (fC (.da (.int 1)))) jc))) jl))
  (jh (jb 1))))
def km:Nat -> FF
 |0=> afr
 |n+1=> jx 3 (zj (km n))
theorem alh:km (n+1) [a0] s=(zj (km n) [some a0,none,none] s).bind jn:=rfl
theorem adh:FnScope ["net","many","part"] ["net"] (je adw):=⟨rfl,rfl,rfl,by decide+kernel,rfl,by decide+kernel,by decide+kernel⟩
theorem adx(T:Txt0 K mg): ∀n:Nat,CalF P w K mg base "parts_in_all" (1+n) 1 (km n)
 |0=> (ab1 (k:=0) T.h_parts_in_all adh rfl)
 | n+1=> by
  have ih:=adx T n
  have sc:=adh
  exact aeb (k:=1+n) T.h_parts_in_all sc rfl rfl fun f cdv A outer s H E I hx hr=> by
   unfold zj
   walk_at "dr"
def Bright_net:FS:=
  (jf (xa (jd 2 (kg 10) (ja (jb 0) (ja (jj jc) jc))))
  (jf (jp (ji (fOp gGt (jd 1 (km 8) (ja (jb 0) jc)) (fC (.da (.int 120))))) (aa6 xb xcs (yu "NoNet" 3 v7 (ja (fC (.da (.str "many"))) (ja (jj jc) jc)))) jl)
  (jh (fC (.da (.bool true))))))
def qy:FF:=jx 1 Bright_net
theorem aqx:qy [a0] s=(Bright_net [some a0] s).bind jn:=rfl
theorem scright_net:FnScope ["thing"] ["thing"] (je ah3):=⟨rfl,rfl,rfl,by decide+kernel,rfl,by decide+kernel,by decide+kernel⟩
theorem okright_net(T:Txt0 K mg):CalF P w K mg base "right_net" 17 1 qy:=by walk_at "okright_net"
def Bis_net:FS:=
  (afi xb xcs "NoNet" none (jh (jd 1 qy (ja (jb 0) jc))) (jh (fC (.da (.bool false)))))
def ac2:FF:=jx 1 Bis_net
theorem ap1:ac2 [a0] s=(Bis_net [some a0] s).bind jn:=rfl
theorem scis_net:FnScope ["thing"] ["thing"] (je anc):=⟨rfl,rfl,rfl,by decide+kernel,rfl,by decide+kernel,by decide+kernel⟩
theorem okis_net(T:Txt0 K mg):CalF P w K mg base "is_net" 18 1 ac2:=by
 have cright_net:=okright_net (P:=P) (w:=w) (base:=base) T
 exact aeb (k:=17) T.h_is_net scis_net rfl rfl (fun f cdv A outer s H E I hx hr=>
   (qx (a5b T.x ⟨rfl,rfl⟩ rfl (fun I _ _ hx=> (qx (atl (aem cright_net (hr.mono (by decide)) (ju (j7 0) k8))))) (fun I _ hx=> (qx (atl a74))))))
def Bis_part:FS:=
  (jf (jp (j2 (jd 1 vi (ja (jb 1) jc))) (jh (xh (jd 1 ac2 (ja (fOp gIx (jb 1) (fC (.da (.int 1)))) jc)) (jd 2 y0 (ja (jb 0) (ja (jb 1) jc))))) jl)
  (jh (jd 2 vf (ja (jb 0) (ja (jb 1) jc)))))
def aew:FF:=jx 2 Bis_part
theorem avj:aew [a0,a1] s=(Bis_part [some a0,some a1] s).bind jn:=rfl
theorem scis_part:FnScope ["things","thing"] ["things","thing"] (je al6):=⟨rfl,rfl,rfl,by decide+kernel,rfl,by decide+kernel,by decide+kernel⟩
theorem okis_part(T:Txt0 K mg):CalF P w K mg base "is_part" 19 2 aew:=by walk_at "okis_part"
def B_law_feed:FS:=
  (jh (kv true (ja (fCB (aae false) (ja (fSl false (jb 0) fNo (kh (fC (.da (.int 63))))) jc)) (ja (fC (.da (.int 0))) (ja (fC (.da (.int 0))) (ja (fC (.da (.int 0))) jc))))))
def aa9:FF:=jx 1 B_law_feed
theorem ar1:aa9 [a0] s=(B_law_feed [some a0] s).bind jn:=rfl
theorem sc_law_feed:FnScope ["_law_script"] ["_law_script"] (je agz):=⟨rfl,rfl,rfl,by decide+kernel,rfl,by decide+kernel,by decide+kernel⟩
theorem ok_law_feed(T:Txt0 K mg):CalF P w K mg base "_law_feed" 1 1 aa9:=by walk_at "ok_law_feed"
def B_law_draw:FS:=
  (jf (abd (fOp (jo false) (fOp gIx (jb 0) (fC (.da (.int 3)))) (fC (.da (.int 1)))) (jb 0) (fC (.da (.int 3))))
  (jf (jp (ji (fOp gGt (fOp gIx (jb 0) (fC (.da (.int 2)))) (fC (.da (.int 0))))) (jf (jw 2 (fOp aam (fOp gIx (jb 0) (fC (.da (.int 2)))) (jb 1)))
  (jf (abd (fOp af7 (fOp gIx (jb 0) (fC (.da (.int 2)))) (jb 1)) (jb 0) (fC (.da (.int 2))))
  (jh (jb 2)))) jl)
  (jf (jw 3 (fC (.da (.int 5))))
  (jf (jp (ji (fOp gNe (fOp gIx (jb 0) (fC (.da (.int 0)))) (kv false jc))) (jw 3 (fOp gIx (fOp gIx (jb 0) (fC (.da (.int 0)))) (fOp aam (fOp gIx (jb 0) (fC (.da (.int 1)))) (fCB jr (ja (fOp gIx (jb 0) (fC (.da (.int 0)))) jc))))) jl)
  (jf (abd (fOp (jo false) (fOp gIx (jb 0) (fC (.da (.int 1)))) (fC (.da (.int 1)))) (jb 0) (fC (.da (.int 1))))
  (jf (jp (qf (ji (fOp gGe (jb 3) (fOp aqu (fC (.da (.int 10))) (fC (.da (.int 18)))))) (ji (fOp gLe (fOp gIx (jb 0) (fC (.da (.int 1)))) (fCB jr (ja (fOp gIx (jb 0) (fC (.da (.int 0)))) jc))))) (jf (abd (fOp af7 (jb 3) (jb 1)) (jb 0) (fC (.da (.int 2))))
  (jh (fOp aam (jb 3) (jb 1)))) jl)
  (jf (jw 4 (fOp aam (fOp aav (fOp (jo false) (fOp aam (jb 3) (fC (.da (.int 998244353)))) (fOp aav (fC (.da (.int 5003))) (fOp gIx (jb 0) (fC (.da (.int 3)))))) (fC (.da (.int 69621)))) (fC (.da (.int 2147483629)))))
  (jf (jw 4 (fOp aam (fOp aav (fOp (jo false) (fOp af7 (jb 4) (fC (.da (.int 13)))) (fOp aav (fOp aav (fC (.da (.int 7919))) (fOp gIx (jb 0) (fC (.da (.int 3))))) (fOp gIx (jb 0) (fC (.da (.int 3)))))) (fC (.da (.int 48271)))) (fC (.da (.int 2147483587)))))
  (jh (fOp aam (fOp af7 (jb 4) (fC (.da (.int 64)))) (jb 1)))))))))))
def jg:FF:=jx 5 B_law_draw
theorem ara:jg [a0,a1] s=(B_law_draw [some a0,some a1,none,none,none] s).bind jn:=rfl
theorem sc_law_draw:FnScope ["_law_feed_here","_law_many","_law_found","_law_cell","_law_mixed"] ["_law_feed_here","_law_many"] (je agv):=⟨rfl,rfl,rfl,by decide+kernel,rfl,by decide+kernel,by decide+kernel⟩
theorem ok_law_draw(T:Txt0 K mg):CalF P w K mg base "_law_draw" 1 2 jg:=by walk_at "ok_law_draw"
def B_law_shuffled:FS:=
  (jf (jw 2 (fCB (aae true) (ja (jb 1) jc)))
  (jf (jw 3 (kv true jc))
  (jf (zq (ac5 (ja (fCB jr (ja (jb 2) jc)) jc)) (.nm 4) (xa (fMt vd (jb 3) (ja (fMt abn (jb 2) (ja (jd 2 jg (ja (jb 0) (ja (fCB jr (ja (jb 2) jc)) jc))) jc)) jc))))
  (jh (ayn (jb 3))))))
def k7:FF:=jx 5 B_law_shuffled
theorem aju:k7 [a0,a1] s=(B_law_shuffled [some a0,some a1,none,none,none] s).bind jn:=rfl
theorem sc_law_shuffled:FnScope ["_law_feed_here","_law_some","_law_left","_law_found","_law_k"] ["_law_feed_here","_law_some"] (je acr):=⟨rfl,rfl,rfl,by decide+kernel,rfl,by decide+kernel,by decide+kernel⟩
theorem ok_law_shuffled(T:Txt0 K mg):CalF P w K mg base "_law_shuffled" 2 2 k7:=by walk_at "ok_law_shuffled"
def B_law_ports:FS:=
  (jf (jw 2 (kv true (ja (kv false (fVs (bM D.da [.str "a",.str "b",.str "c",.str "d",.str "e",.str "f",.str "g",.str "h"]))) (ja (kv false (fVs (bM D.da [.str "net",.str "end",.str "within",.str "place",.str "last",.str "to",.str "a",.str "table"]))) jc))))
  (jf (xa (fMt vd (jb 2) (ja (kv false (fVs (bM D.da [.str "a",.str "ab",.str "abc",.str "abcd",.str "b",.str "ba",.str "abcdefgh",.str "abcdefgi"]))) jc)))
  (jf (xa (fMt vd (jb 2) (ja (kv false (fVs (bM D.da [.str "zzzzzzzz",.str "z",.str "zz",.str "y",.str "only",.str "onlya",.str "copy",.str "aa"]))) jc)))
  (jf (jw 3 (fOp gIx (jb 2) (jd 2 jg (ja (jb 0) (ja (fC (.da (.int 4))) jc)))))
  (jf (jw 4 (jd 2 jg (ja (jb 0) (ja (fC (.da (.int 8))) jc))))
  (jh (fSl false (fOp (jo false) (fSl false (jb 3) (kh (jb 4)) fNo) (fSl false (jb 3) fNo (kh (jb 4)))) fNo (kh (jb 1)))))))))
def yb:FF:=jx 5 B_law_ports
theorem aob:yb [a0,a1] s=(B_law_ports [some a0,some a1,none,none,none] s).bind jn:=rfl
theorem sc_law_ports:FnScope ["_law_feed_here","_law_many","_law_pools","_law_pool","_law_turn"] ["_law_feed_here","_law_many"] (je af3):=⟨rfl,rfl,rfl,by decide+kernel,rfl,by decide+kernel,by decide+kernel⟩
theorem ok_law_ports(T:Txt0 K mg):CalF P w K mg base "_law_ports" 2 2 yb:=by walk_at "ok_law_ports"
def B_law_part:FS:=
  (jf (jw 3 (jd 2 k7 (ja (jb 0) (ja (jb 2) jc))))
  (jf (jw 4 (fOp gIx (kv false (fVs (bM D.da [.str "both",.str "loose",.str "place",.str "last",.str "drain",.str "either",.str "only",.str "copy",.str "merge",.str "place"]))) (jd 2 jg (ja (jb 0) (ja (fC (.da (.int 10))) jc)))))
  (jf (jp (ji (fOp gIn (jb 4) (jj (fVs (bM D.da [.str "copy",.str "merge"]))))) (jf (jw 5 (fCB qp (ja (fSl false (jb 3) (kh (fC (.da (.int 1)))) (kh (fOp (jo false) (fC (.da (.int 2))) (jd 2 jg (ja (jb 0) (ja (fCB afd (ja (fC (.da (.int 4))) (ja (fOp y3 (fCB jr (ja (jb 3) jc)) (fC (.da (.int 1)))) jc))) jc)))))) jc)))
  (jh (fIf (ji (fOp gEq (jb 4) (fC (.da (.str "copy"))))) (jj (ja (jb 4) (ja (fOp gIx (jb 3) (fC (.da (.int 0)))) (ja (jb 5) jc)))) (jj (ja (jb 4) (ja (jb 5) (ja (fOp gIx (jb 3) (fC (.da (.int 0)))) jc))))))) jl)
  (jf (jp (ji (fOp gIn (jb 4) (jj (fVs (bM D.da [.str "place",.str "last"]))))) (jh (jj (ja (jb 4) (ja (fOp gIx (jb 3) (fC (.da (.int 0)))) (ja (fOp gIx (jb 3) (fC (.da (.int 1)))) (ja (fOp gIx (kv false (ja (fC (.da (.none))) (ja (fC (.da (.none))) (ja (fC (.da (.int 0))) (ja (fOp y3 (jb 1) (fC (.da (.int 1)))) jc))))) (jd 2 jg (ja (jb 0) (ja (fC (.da (.int 4))) jc)))) jc)))))) jl)
  (jf (jp (ji (fOp gEq (jb 4) (fC (.da (.str "only"))))) (jh (jj (ja (jb 4) (ja (fOp gIx (jb 3) (fC (.da (.int 0)))) (ja (fOp gIx (jb 3) (fC (.da (.int 1)))) (ja (fCB qp (ja (fLc false [0] 1 (ac5 (ja (jb 1) jc)) (.nm 0) (ji (fOp gGt (jd 2 jg (ja (jb 1) (ja (fC (.da (.int 3))) jc))) (fC (.da (.int 0))))) (jb 0)) jc)) jc)))))) jl)
  (jh (jj (ja (jb 4) (ja (fOp gIx (jb 3) (fC (.da (.int 0)))) (ja (fOp gIx (jb 3) (fC (.da (.int 1)))) jc))))))))))
def y9:FF:=jx 6 B_law_part
theorem arj{a2:D}:y9 [a0,a1,a2] s=(B_law_part [some a0,some a1,some a2,none,none,none] s).bind jn:=rfl
theorem sc_law_part:FnScope ["_law_feed_here","_law_things","_law_ports_here","_law_some","_law_word","_law_many"] ["_law_feed_here","_law_things","_law_ports_here"] (je agw):=⟨rfl,rfl,rfl,by decide+kernel,rfl,by decide+kernel,by decide+kernel⟩
theorem ok_law_part(T:Txt0 K mg):CalF P w K mg base "_law_part" 3 3 y9:=by walk_at "ok_law_part"
def B_law_nest(v8:FF):FS:=
  (jf (jw 4 (jd 2 yb (ja (jb 0) (ja (fOp (jo false) (fCB ajq (ja (fC (.da (.int 2))) (ja (jb 3) jc))) (jd 2 jg (ja (jb 0) (ja (fC (.da (.int 3))) jc)))) jc))))
  (jf (jw 5 (kv true jc))
  (jf (zq (ac5 (ja (jd 2 jg (ja (jb 0) (ja (fC (.da (.int 4))) jc))) jc)) (.nm 6) (jp (qf (ji (fOp gGt (jb 1) (fC (.da (.int 1))))) (ji (fOp gEq (jd 2 jg (ja (jb 0) (ja (fC (.da (.int 2))) jc))) (fC (.da (.int 0)))))) (jf (jw 7 (fSl false (jd 2 k7 (ja (jb 0) (ja (jb 4) jc))) fNo (kh (jd 2 jg (ja (jb 0) (ja (fOp (jo false) (fCB afd (ja (fC (.da (.int 3))) (ja (fCB jr (ja (jb 4) jc)) jc))) (fC (.da (.int 1)))) jc))))))
  (xa (fMt vd (jb 5) (ja (jj (ja (fC (.da (.str "net"))) (ja (jd 4 v8 (ja (jb 0) (ja (fOp y3 (jb 1) (fC (.da (.int 1)))) (ja (jb 2) (ja (fCB jr (ja (jb 7) jc)) jc))))) (ja (fCB qp (ja (jb 7) jc)) jc)))) jc)))) (xa (fMt vd (jb 5) (ja (jd 3 y9 (ja (jb 0) (ja (jb 2) (ja (jb 4) jc)))) jc)))))
  (jh (jj (ja (jb 2) (ja (fCB qp (ja (fSl false (jd 2 k7 (ja (jb 0) (ja (jb 4) jc))) fNo (kh (jb 3))) jc)) (ja (fCB qp (ja (jb 5) jc)) jc))))))))
def v8:Nat -> FF
 |0=> afr
 |n+1=> jx 8 (B_law_nest (v8 n))
theorem sc_law_nest:FnScope ["_law_feed_here","_law_deep","_law_things","_law_seen","_law_ports_here","_law_parts_here","_law_k","_law_told"] ["_law_feed_here","_law_deep","_law_things","_law_seen"] (je ah1):=⟨rfl,rfl,rfl,by decide+kernel,rfl,by decide+kernel,by decide+kernel⟩
theorem ok_law_nest(T:Txt0 K mg): ∀n:Nat,CalF P w K mg base "_law_nest" (4+n) 4 (v8 n)
 |0=> (ab1 (k:=3) T.h__law_nest sc_law_nest rfl)
 | n+1=> by
  have ih:=ok_law_nest T n
  have sc:=sc_law_nest
  exact aeb (k:=4+n) T.h__law_nest sc rfl rfl fun f cdv A outer s H E I hx hr=> by
   unfold B_law_nest
   walk_at "dr"
def B_law_is_whole:FS:=
  (jh (xh (fCB ku (ja (jb 0) (ja (fC (.ty "int")) jc))) (awl (fCB ku (ja (jb 0) (ja (fC (.ty "bool")) jc))))))
def vq:FF:=jx 1 B_law_is_whole
theorem ajc:vq [a0] s=(B_law_is_whole [some a0] s).bind jn:=rfl
theorem sc_law_is_whole:FnScope ["_law_thing"] ["_law_thing"] (je ad3):=⟨rfl,rfl,rfl,by decide+kernel,rfl,by decide+kernel,by decide+kernel⟩
theorem ok_law_is_whole(T:Txt0 K mg):CalF P w K mg base "_law_is_whole" 1 1 vq:=by walk_at "ok_law_is_whole"
def B_law_is_port:FS:=
  (jf (jw 1 (fC (.da (.str "abcdefghijklmnopqrstuvwxyz"))))
  (jh (xh (fCB ku (ja (jb 0) (ja (fC (.ty "str")) jc))) (xh (v0 gLt gLt (fC (.da (.int 0))) (fCB jr (ja (jb 0) jc)) (fC (.da (.int 9)))) (fOp gEq (fLc false [1] 1 (ar4 (jb 0)) (.nm 0) (ji (fOp acg (jb 0) (jb 1))) (jb 0)) (kv false jc))))))
def xz:FF:=jx 2 B_law_is_port
theorem alg:xz [a0] s=(B_law_is_port [some a0,none] s).bind jn:=rfl
theorem sc_law_is_port:FnScope ["_law_thing","_law_letters"] ["_law_thing"] (je adi):=⟨rfl,rfl,rfl,by decide+kernel,rfl,by decide+kernel,by decide+kernel⟩
theorem ok_law_is_port(T:Txt0 K mg):CalF P w K mg base "_law_is_port" 1 1 xz:=by walk_at "ok_law_is_port"
def B_law_are_ports:FS:=
  (jf (jp (qz (jv (j2 (fCB ku (ja (jb 0) (ja (fC (.ty "tuple")) jc))))) (ji (fOp gNe (fLc false [] 1 (fIt (jb 0)) (.nm 0) (jv (j2 (jd 1 xz (ja (jb 0) jc)))) (jb 0)) (kv false jc)))) (jh (fC (.da (.bool false)))) jl)
  (jh (fOp gEq (fCB ae3 (ja (jb 0) jc)) (fCB jr (ja (jb 0) jc)))))
def j4:FF:=jx 1 B_law_are_ports
theorem ais:j4 [a0] s=(B_law_are_ports [some a0] s).bind jn:=rfl
theorem sc_law_are_ports:FnScope ["_law_thing"] ["_law_thing"] (je ach):=⟨rfl,rfl,rfl,by decide+kernel,rfl,by decide+kernel,by decide+kernel⟩
theorem ok_law_are_ports(T:Txt0 K mg):CalF P w K mg base "_law_are_ports" 2 1 j4:=by walk_at "ok_law_are_ports"
def B_law_are_told:FS:=
  (jf (jp (qz (jv (j2 (fCB ku (ja (jb 1) (ja (fC (.ty "tuple")) jc))))) (ji (fOp gNe (fLc false [] 1 (fIt (jb 1)) (.nm 0) (jv (j2 (jd 1 vq (ja (jb 0) jc)))) (jb 0)) (kv false jc)))) (jh (fC (.da (.bool false)))) jl)
  (jh (xh (fOp gEq (fCB (aae false) (ja (jb 1) jc)) (fCB (ad2 false) (ja (jb 1) jc))) (fOp gEq (fLc false [0] 1 (fIt (jb 1)) (.nm 0) (jv (ji (v0 gLe gLt (fC (.da (.int 0))) (jb 0) (jb 1)))) (jb 0)) (kv false jc)))))
def xm:FF:=jx 2 B_law_are_told
theorem ajg:xm [a0,a1] s=(B_law_are_told [some a0,some a1] s).bind jn:=rfl
theorem sc_law_are_told:FnScope ["_law_things","_law_thing"] ["_law_things","_law_thing"] (je acw):=⟨rfl,rfl,rfl,by decide+kernel,rfl,by decide+kernel,by decide+kernel⟩
theorem ok_law_are_told(T:Txt0 K mg):CalF P w K mg base "_law_are_told" 2 2 xm:=by walk_at "ok_law_are_told"
def B_law_is_plain:FS:=
  (jf (jp (qz (jv (j2 (fCB ku (ja (jb 1) (ja (fC (.ty "tuple")) jc))))) (qz (ji (fOp acg (fCB jr (ja (jb 1) jc)) (jj (fVs (bM D.da [.int 3,.int 4]))))) (jv (j2 (fCB ku (ja (fOp gIx (jb 1) (fC (.da (.int 0)))) (ja (fC (.ty "str")) jc))))))) (jh (fC (.da (.bool false)))) jl)
  (jf (jw 2 (fCB ahi (ja (fOp gEq (fOp gIx (jb 1) (fC (.da (.int 0)))) (fC (.da (.str "merge")))) jc)))
  (jf (jp (ji (fOp gIn (fOp gIx (jb 1) (fC (.da (.int 0)))) (jj (fVs (bM D.da [.str "copy",.str "merge"]))))) (jf (jw 3 (fOp gIx (jb 1) (fOp y3 (fC (.da (.int 2))) (jb 2))))
  (jf (jp (qz (jv (j2 (fCB ku (ja (jb 3) (ja (fC (.ty "tuple")) jc))))) (jv (ji (v0 gLe gLe (fC (.da (.int 1))) (fCB jr (ja (jb 3) jc)) (fC (.da (.int 12))))))) (jh (fC (.da (.bool false)))) jl)
  (jh (xh (fOp gEq (fCB jr (ja (jb 1) jc)) (fC (.da (.int 3)))) (jd 1 j4 (ja (fOp (jo false) (jb 3) (jj (ja (fOp gIx (jb 1) (fOp (jo false) (fC (.da (.int 1))) (jb 2))) jc))) jc)))))) jl)
  (jf (jp (jv (j2 (jd 1 j4 (ja (fSl false (jb 1) (kh (fC (.da (.int 1)))) (kh (fC (.da (.int 3))))) jc)))) (jh (fC (.da (.bool false)))) jl)
  (jf (jp (ji (fOp gIn (fOp gIx (jb 1) (fC (.da (.int 0)))) (jj (fVs (bM D.da [.str "both",.str "loose",.str "drain",.str "either"]))))) (jh (fOp gEq (fCB jr (ja (jb 1) jc)) (fC (.da (.int 3))))) jl)
  (jf (jp (ji (fOp gIn (fOp gIx (jb 1) (fC (.da (.int 0)))) (jj (fVs (bM D.da [.str "place",.str "last"]))))) (jh (xh (fOp gEq (fCB jr (ja (jb 1) jc)) (fC (.da (.int 4)))) (fOr (fOp gIs (fOp gIx (jb 1) (fC (.da (.int 3)))) (fC (.da (.none)))) (jd 2 xm (ja (jb 0) (ja (jj (ja (fOp gIx (jb 1) (fC (.da (.int 3)))) jc)) jc)))))) jl)
  (jh (xh (fOp gEq (fOp gIx (jb 1) (fC (.da (.int 0)))) (fC (.da (.str "only")))) (xh (fOp gEq (fCB jr (ja (jb 1) jc)) (fC (.da (.int 4)))) (jd 2 xm (ja (jb 0) (ja (fOp gIx (jb 1) (fC (.da (.int 3)))) jc))))))))))))
def qd:FF:=jx 4 B_law_is_plain
theorem aaq:qd [a0,a1] s=(B_law_is_plain [some a0,some a1,none,none] s).bind jn:=rfl
theorem sc_law_is_plain:FnScope ["_law_things","_law_part_here","_law_turned","_law_many"] ["_law_things","_law_part_here"] (je ad4):=⟨rfl,rfl,rfl,by decide+kernel,rfl,by decide+kernel,by decide+kernel⟩
theorem ok_law_is_plain(T:Txt0 K mg):CalF P w K mg base "_law_is_plain" 3 2 qd:=by walk_at "ok_law_is_plain"
def B_law_fault(qj:FF):FS:=
  (jf (jp (qz (jv (j2 (fCB ku (ja (jb 0) (ja (fC (.ty "tuple")) jc))))) (qz (ji (fOp gNe (fCB jr (ja (jb 0) jc)) (fC (.da (.int 3))))) (ji (fOp gGt (jb 2) (fC (.da (.int 4))))))) (jh (jj (ja (fC (.da (.str "net"))) (ja (jb 1) jc)))) jl)
  (jf (jp (qz (jv (j2 (jd 1 vq (ja (fOp gIx (jb 0) (fC (.da (.int 0)))) jc)))) (jv (ji (v0 gLe gLe (fC (.da (.int 1))) (fOp gIx (jb 0) (fC (.da (.int 0)))) (fC (.da (.int 3))))))) (jh (jj (ja (fC (.da (.str "things"))) (ja (jb 1) jc)))) jl)
  (jf (jp (qz (jv (j2 (jd 1 j4 (ja (fOp gIx (jb 0) (fC (.da (.int 1)))) jc)))) (ji (fOp gGt (fCB jr (ja (fOp gIx (jb 0) (fC (.da (.int 1)))) jc)) (fC (.da (.int 6)))))) (jh (jj (ja (fC (.da (.str "seen"))) (ja (jb 1) jc)))) jl)
  (jf (jp (jv (j2 (fCB ku (ja (fOp gIx (jb 0) (fC (.da (.int 2)))) (ja (fC (.ty "tuple")) jc))))) (jh (jj (ja (fC (.da (.str "parts"))) (ja (jb 1) jc)))) jl)
  (jf (zq (ac5 (ja (fCB jr (ja (fOp gIx (jb 0) (fC (.da (.int 2)))) jc)) jc)) (.nm 3) (jf (jw 4 (fOp gIx (fOp gIx (jb 0) (fC (.da (.int 2)))) (jb 3)))
  (jp (qf (j2 (fCB ku (ja (jb 4) (ja (fC (.ty "tuple")) jc)))) (qf (ji (fOp gEq (fCB jr (ja (jb 4) jc)) (fC (.da (.int 3))))) (qf (ji (fOp gEq (fOp gIx (jb 4) (fC (.da (.int 0)))) (fC (.da (.str "net"))))) (j2 (jd 1 j4 (ja (fOp gIx (jb 4) (fC (.da (.int 2)))) jc)))))) (jf (jw 5 (jd 3 qj (ja (fOp gIx (jb 4) (fC (.da (.int 1)))) (ja (fOp (jo false) (jb 1) (jj (ja (jb 3) jc))) (ja (fOp (jo false) (jb 2) (fC (.da (.int 1)))) jc)))))
  (jf (jp (ji (fOp adp (jb 5) (fC (.da (.none))))) (jh (jb 5)) jl)
  (jp (ji (fOp gNe (jj (ja (fOp gIx (fOp gIx (jb 4) (fC (.da (.int 1)))) (fC (.da (.int 0)))) (ja (fCB jr (ja (fOp gIx (fOp gIx (jb 4) (fC (.da (.int 1)))) (fC (.da (.int 1)))) jc)) jc))) (jj (ja (fOp gIx (jb 0) (fC (.da (.int 0)))) (ja (fCB jr (ja (fOp gIx (jb 4) (fC (.da (.int 2)))) jc)) jc))))) (jh (jj (ja (fC (.da (.str "part"))) (ja (fOp (jo false) (jb 1) (jj (ja (jb 3) jc))) jc)))) jl))) (jp (jv (j2 (jd 2 qd (ja (fOp gIx (jb 0) (fC (.da (.int 0)))) (ja (jb 4) jc))))) (jh (jj (ja (fC (.da (.str "part"))) (ja (fOp (jo false) (jb 1) (jj (ja (jb 3) jc))) jc)))) jl))))
  (jh (fC (.da (.none)))))))))
def qj:Nat -> FF
 |0=> afr
 |n+1=> jx 6 (B_law_fault (qj n))
theorem agu{a2:D}:qj (n+1) [a0,a1,a2] s=(B_law_fault (qj n) [some a0,some a1,some a2,none,none,none] s).bind jn:=rfl
theorem sc_law_fault:FnScope ["_law_thing","_law_path","_law_deep","_law_k","_law_part_here","_law_found"] ["_law_thing","_law_path","_law_deep"] (je af5):=⟨rfl,rfl,rfl,by decide+kernel,rfl,by decide+kernel,by decide+kernel⟩
theorem ok_law_fault(T:Txt0 K mg): ∀n:Nat,CalF P w K mg base "_law_fault" (4+n) 3 (qj n)
 |0=> (ab1 (k:=3) T.h__law_fault sc_law_fault rfl)
 | n+1=> by
  have ih:=ok_law_fault T n
  have sc:=sc_law_fault
  exact aeb (k:=4+n) T.h__law_fault sc rfl rfl fun f cdv A outer s H E I hx hr=> by
   unfold B_law_fault
   walk_at "dr"
def B_law_count(vm:FF):FS:=
  (jh (fOp (jo false) (fCB jr (ja (fOp gIx (jb 0) (fC (.da (.int 2)))) jc)) (fCB arb (ja (fLc false [] 1 (fIt (fOp gIx (jb 0) (fC (.da (.int 2))))) (.nm 0) (ji (fOp gEq (fOp gIx (jb 0) (fC (.da (.int 0)))) (fC (.da (.str "net"))))) (jd 1 vm (ja (fOp gIx (jb 0) (fC (.da (.int 1)))) jc))) jc))))
def vm:Nat -> FF
 |0=> afr
 |n+1=> jx 1 (B_law_count (vm n))
theorem ao8:vm (n+1) [a0] s=(B_law_count (vm n) [some a0] s).bind jn:=rfl
theorem sc_law_count:FnScope ["_law_net"] ["_law_net"] (je afg):=⟨rfl,rfl,rfl,by decide+kernel,rfl,by decide+kernel,by decide+kernel⟩
theorem ok_law_count(T:Txt0 K mg): ∀n:Nat,CalF P w K mg base "_law_count" (1+n) 1 (vm n)
 |0=> (ab1 (k:=0) T.h__law_count sc_law_count rfl)
 | n+1=> by
  have ih:=ok_law_count T n
  have sc:=sc_law_count
  exact aeb (k:=1+n) T.h__law_count sc rfl rfl fun f cdv A outer s H E I hx hr=> by
   unfold B_law_count
   walk_at "dr"
def acn(jq:FF):FS:=
  (jh (fOp gIx (jb 4) (jd 2 jg (ja (jb 0) (ja (fC (.da (.int 19))) jc)))))
def yy(jq:FF):FS:=
  (jf (jw 4 (kv false (ja (fC (.da (.none))) (ja (fC (.da (.bool true))) (ja (fC (.da (.bool false))) (ja (fC (.da (.int 0))) (ja (fC (.da (.int 1))) (ja (fC (.da (.int 2))) (ja (fC (.da (.int 3))) (ja (amb (fC (.da (.int 1)))) (ja (fC (.da (.str "a"))) (ja (fC (.da (.str ""))) (ja (fC (.da (.str "ab"))) (ja (fC (.da (.str "A"))) (ja (fC (.da (.str "ninesigns"))) (ja (fC (.da (.str "net"))) (ja (fC (.da (.str "merge"))) (ja (fC (.da (.str "place"))) (ja (jj jc) (ja (kv false jc) (ja (jj (ja (fC (.da (.str "a"))) jc)) jc)))))))))))))))))))))
  (acn jq))
def aa3(jq:FF):FS:=
  (jf (jp (qf (j2 (fCB ku (ja (jb 1) (ja (fC (.ty "str")) jc)))) (qf (ji (fOp gNe (jb 1) (fC (.da (.str ""))))) (ji (fOp gGt (jb 3) (fC (.da (.int 1))))))) (jf (jw 2 (jd 2 jg (ja (jb 0) (ja (fCB jr (ja (jb 1) jc)) jc))))
  (jh (fOp (jo false) (fOp (jo false) (fSl false (jb 1) fNo (kh (jb 2))) (fOp gIx (fC (.da (.str "abcdefghijklmnopqrstuvwxyz"))) (jd 2 jg (ja (jb 0) (ja (fC (.da (.int 26))) jc))))) (fSl false (jb 1) (kh (fOp (jo false) (jb 2) (fC (.da (.int 1))))) fNo)))) jl)
  (yy jq))
def y2(jq:FF):FS:=
  (jf (jp (qf (j2 (fCB ku (ja (jb 1) (ja (fC (.ty "int")) jc)))) (ji (fOp gGt (jb 3) (fC (.da (.int 0)))))) (jh (fOp gIx (kv false (ja (fOp y3 (amb (fC (.da (.int 1)))) (jb 1)) (ja (fOp (jo false) (jb 1) (fC (.da (.int 1)))) (ja (fOp y3 (jb 1) (fC (.da (.int 1)))) (ja (fOp gEq (jb 1) (fC (.da (.int 1)))) jc))))) (fOp y3 (jb 3) (fC (.da (.int 1)))))) jl)
  (aa3 jq))
def aab(jq:FF):FS:=
  (jf (jp (qf (j2 (fCB ku (ja (jb 1) (ja (fC (.ty "tuple")) jc)))) (ji (fOp gGt (jb 3) (fC (.da (.int 0)))))) (jf (jw 2 (jd 2 jg (ja (jb 0) (ja (fOp (jo false) (fCB jr (ja (jb 1) jc)) (fC (.da (.int 1)))) jc))))
  (jh (fOp gIx (kv false (ja (fCB (aae false) (ja (jb 1) jc)) (ja (fOp (jo false) (fSl false (jb 1) fNo (kh (jb 2))) (fSl false (jb 1) (kh (fOp (jo false) (jb 2) (fC (.da (.int 1))))) fNo)) (ja (fOp (jo false) (fSl false (jb 1) fNo (kh (fOp (jo false) (jb 2) (fC (.da (.int 1)))))) (fSl false (jb 1) (kh (jb 2)) fNo)) (ja (awi (jb 1) (amb (fC (.da (.int 1))))) jc))))) (fOp y3 (jb 3) (fC (.da (.int 1))))))) jl)
  (y2 jq))
def yz(jq:FF):FS:=
  (jf (jw 3 (jd 2 jg (ja (jb 0) (ja (fC (.da (.int 5))) jc))))
  (aab jq))
def B_law_bent(jq:FF):FS:=
  (jf (jp (qf (j2 (fCB ku (ja (jb 1) (ja (fC (.ty "tuple")) jc)))) (qf (ji (fOp gNe (jb 1) (jj jc))) (ji (fOp gGt (jd 2 jg (ja (jb 0) (ja (fC (.da (.int 4))) jc))) (fC (.da (.int 0))))))) (jf (jw 2 (jd 2 jg (ja (jb 0) (ja (fCB jr (ja (jb 1) jc)) jc))))
  (jh (fOp (jo false) (fOp (jo false) (fSl false (jb 1) fNo (kh (jb 2))) (jj (ja (jd 2 jq (ja (jb 0) (ja (fOp gIx (jb 1) (jb 2)) jc))) jc))) (fSl false (jb 1) (kh (fOp (jo false) (jb 2) (fC (.da (.int 1))))) fNo)))) jl)
  (yz jq))
def jq:Nat -> FF
 |0=> afr
 |n+1=> jx 5 (B_law_bent (jq n))
theorem arz:jq (n+1) [a0,a1] s=(B_law_bent (jq n) [some a0,some a1,none,none,none] s).bind jn:=rfl
theorem sc_law_bent:FnScope ["_law_feed_here","_law_thing","_law_at","_law_way","_law_some"] ["_law_feed_here","_law_thing"] (je ah6):=⟨rfl,rfl,rfl,by decide+kernel,rfl,by decide+kernel,by decide+kernel⟩
theorem ok_law_bent(T:Txt0 K mg): ∀n:Nat,CalF P w K mg base "_law_bent" (2+n) 2 (jq n)
 |0=> (ab1 (k:=1) T.h__law_bent sc_law_bent rfl)
 | n+1=> by
  have ih:=ok_law_bent T n
  have sc:=sc_law_bent
  exact aeb (k:=2+n) T.h__law_bent sc rfl rfl fun f cdv A outer s H E I hx hr=> by
   unfold B_law_bent yz aab y2 aa3 yy acn
   walk_at "dr"
def B_law_is_part:FS:=
  (jf (jp (qf (j2 (fCB ku (ja (jb 1) (ja (fC (.ty "tuple")) jc)))) (qf (ji (fOp gEq (fCB jr (ja (jb 1) jc)) (fC (.da (.int 3))))) (qf (ji (fOp gEq (fOp gIx (jb 1) (fC (.da (.int 0)))) (fC (.da (.str "net"))))) (j2 (jd 1 j4 (ja (fOp gIx (jb 1) (fC (.da (.int 2)))) jc)))))) (jf (jp (qz (ji (fOp adp (jd 3 (qj 8) (ja (fOp gIx (jb 1) (fC (.da (.int 1)))) (ja (jj jc) (ja (fC (.da (.int 1))) jc)))) (fC (.da (.none))))) (ji (fOp gGt (jd 1 (vm 8) (ja (fOp gIx (jb 1) (fC (.da (.int 1)))) jc)) (fC (.da (.int 120)))))) (jh (fC (.da (.bool false)))) jl)
  (jh (fOp gEq (jj (ja (fOp gIx (fOp gIx (jb 1) (fC (.da (.int 1)))) (fC (.da (.int 0)))) (ja (fCB jr (ja (fOp gIx (fOp gIx (jb 1) (fC (.da (.int 1)))) (fC (.da (.int 1)))) jc)) jc))) (jj (ja (jb 0) (ja (fCB jr (ja (fOp gIx (jb 1) (fC (.da (.int 2)))) jc)) jc)))))) jl)
  (jh (jd 2 qd (ja (jb 0) (ja (jb 1) jc)))))
def zk:FF:=jx 2 B_law_is_part
theorem ale:zk [a0,a1] s=(B_law_is_part [some a0,some a1] s).bind jn:=rfl
theorem sc_law_is_part:FnScope ["_law_things","_law_part_here"] ["_law_things","_law_part_here"] (je adu):=⟨rfl,rfl,rfl,by decide+kernel,rfl,by decide+kernel,by decide+kernel⟩
theorem ok_law_is_part(T:Txt0 K mg):CalF P w K mg base "_law_is_part" 13 2 zk:=by walk_at "ok_law_is_part"
def B_law_knots:FS:=
  (jf (jw 1 (fOp (jo false) (fC (.da (.int 11))) (jd 2 jg (ja (jb 0) (ja (fC (.da (.int 3))) jc)))))
  (jf (jw 2 (fLc true [] 1 (ac5 (ja (jb 1) jc)) (.nm 0) acd (fOp (jo false) (fC (.da (.str "p"))) (fOp gIx (fC (.da (.str "abcdefghijklmnop"))) (jb 0)))))
  (jf (jp (ji (fOp gEq (jd 2 jg (ja (jb 0) (ja (fC (.da (.int 4))) jc))) (fC (.da (.int 0))))) (abd (fC (.da (.str "pa"))) (jb 2) (jd 2 jg (ja (jb 0) (ja (jb 1) jc)))) jl)
  (jf (jw 3 (fOp gIx (kv false (fVs (bM D.da [.str "a",.str "pb"]))) (fCB ahi (ja (fOp gEq (jd 2 jg (ja (jb 0) (ja (fC (.da (.int 5))) jc))) (fC (.da (.int 0)))) jc))))
  (jh (kv false (ja (jj (ja (fC (.da (.str "copy"))) (ja (jb 3) (ja (fCB qp (ja (jb 2) jc)) jc)))) (ja (jj (ja (fC (.da (.str "merge"))) (ja (fCB qp (ja (jb 2) jc)) (ja (jb 3) jc)))) (ja (jj (ja (fC (.da (.str "copy"))) (ja (jb 3) (ja (jj jc) jc)))) (ja (jj (ja (fC (.da (.str "merge"))) (ja (jj jc) (ja (jb 3) jc)))) jc))))))))))
def ab6:FF:=jx 4 B_law_knots
theorem aoc:ab6 [a0] s=(B_law_knots [some a0,none,none,none] s).bind jn:=rfl
theorem sc_law_knots:FnScope ["_law_feed_here","_law_many","_law_some","_law_outer"] ["_law_feed_here"] (je afq):=⟨rfl,rfl,rfl,by decide+kernel,rfl,by decide+kernel,by decide+kernel⟩
theorem ok_law_knots(T:Txt0 K mg):CalF P w K mg base "_law_knots" 2 1 ab6:=by walk_at "ok_law_knots"
def B_law_parts:FS:=
  (jf (jw 2 (jd 2 yb (ja (jb 0) (ja (fOp (jo false) (fC (.da (.int 2))) (jd 2 jg (ja (jb 0) (ja (fC (.da (.int 6))) jc)))) jc))))
  (jf (jw 3 (fOp (jo false) (fLc false [0,1,2] 1 (ac5 (ja (fC (.da (.int 4))) jc)) (.nm 0) acd (jd 3 y9 (ja (jb 1) (ja (jb 2) (ja (jb 3) jc))))) (jd 1 ab6 (ja (jb 0) jc))))
  (jf (jw 4 (fSl false (jd 2 k7 (ja (jb 0) (ja (jb 2) jc))) fNo (kh (jd 2 jg (ja (jb 0) (ja (fOp (jo false) (fCB afd (ja (fC (.da (.int 3))) (ja (fCB jr (ja (jb 2) jc)) jc))) (fC (.da (.int 1)))) jc))))))
  (jf (jw 5 (jd 4 (v8 8) (ja (jb 0) (ja (fOp (jo false) (fC (.da (.int 1))) (jd 2 jg (ja (jb 0) (ja (fC (.da (.int 4))) jc)))) (ja (fOp (jo false) (fC (.da (.int 1))) (jd 2 jg (ja (jb 0) (ja (fC (.da (.int 3))) jc)))) (ja (fCB jr (ja (jb 4) jc)) jc))))))
  (jf (jw 6 (jj (ja (jb 1) (ja (jj jc) (ja (fOp (alo false) (jj (ja (jj (fVs (bM D.da [.str "drain",.str "a",.str "b"]))) jc)) (fOp (jo false) (fC (.da (.int 119))) (jd 2 jg (ja (jb 0) (ja (fC (.da (.int 3))) jc))))) jc)))))
  (jf (jw 3 (fOp (jo false) (jb 3) (kv false (ja (jj (ja (fC (.da (.str "net"))) (ja (jb 5) (ja (fCB qp (ja (jb 4) jc)) jc)))) (ja (jj (ja (fC (.da (.str "net"))) (ja (jb 5) (ja (jj (ja (fC (.da (.str "a"))) jc)) jc)))) (ja (jj (ja (fC (.da (.str "net"))) (ja (jb 6) (ja (jj jc) jc)))) jc))))))
  (jh (fOp (jo false) (jb 3) (kv false (ja (jj (ja (fC (.da (.str "net"))) (ja (jj (ja (jb 1) (ja (jj jc) (ja (jj jc) jc)))) (ja (jj jc) jc)))) jc))))))))))
def zf:FF:=jx 7 B_law_parts
theorem aoe:zf [a0,a1] s=(B_law_parts [some a0,some a1,none,none,none,none,none] s).bind jn:=rfl
theorem sc_law_parts:FnScope ["_law_feed_here","_law_things","_law_ports_here","_law_found","_law_told","_law_inner","_law_great"] ["_law_feed_here","_law_things"] (je afn):=⟨rfl,rfl,rfl,by decide+kernel,rfl,by decide+kernel,by decide+kernel⟩
theorem ok_law_parts(T:Txt0 K mg):CalF P w K mg base "_law_parts" 13 2 zf:=by walk_at "ok_law_parts"
def B_law_right:FS:=
  (jf (jw 2 (fCB ze (ja (jb 1) jc)))
  (jf (jp (ji (fOp gNe (fCB ze (ja (jd 2 aew (ja (jb 0) (ja (jb 1) jc))) jc)) (fCB ze (ja (jd 2 zk (ja (jb 0) (ja (jb 1) jc))) jc)))) (jh (fC (.da (.bool false)))) jl)
  (jh (xh (fOp gEq (fCB ze (ja (jd 1 ac9 (ja (jb 1) jc)) jc)) (fCB ze (ja (jd 1 xz (ja (jb 1) jc)) jc))) (fOp gEq (fCB ze (ja (jb 1) jc)) (jb 2))))))
def xc:FF:=jx 3 B_law_right
theorem aoi:xc [a0,a1] s=(B_law_right [some a0,some a1,none] s).bind jn:=rfl
theorem sc_law_right:FnScope ["_law_things","_law_thing","_law_kept"] ["_law_things","_law_thing"] (je afj):=⟨rfl,rfl,rfl,by decide+kernel,rfl,by decide+kernel,by decide+kernel⟩
theorem ok_law_right(T:Txt0 K mg):CalF P w K mg base "_law_right" 20 2 xc:=by walk_at "ok_law_right"
def Blaw:FS:=
  (jf (jw 1 (jd 1 aa9 (ja (jb 0) jc)))
  (jf (jw 2 (kv false (ja (fC (.da (.str ""))) (ja (fC (.da (.str "a"))) (ja (fC (.da (.str "abcdefgh"))) (ja (fC (.da (.str "abcdefghi"))) (ja (fC (.da (.str "A"))) (ja (fC (.da (.str "a1"))) (ja (fC (.da (.str "a b"))) (ja (fC (.da (.str "z"))) (ja (fC (.da (.str "net"))) (ja (fC (.da (.none))) (ja (fC (.da (.bool true))) (ja (fC (.da (.int 3))) (ja (kv false jc) (ja (jj (ja (fC (.da (.str "a"))) jc)) (ja (fC (.da (.str "a\n"))) (ja (fC (.da (.str "-"))) jc))))))))))))))))))
  (jf (zq (fIt (fOp (jo false) (jb 2) (kv false (ja (jj (fVs (bM D.da [.str "both",.str "a",.str "b",.str "c"]))) (ja (jj (ja (fC (.da (.str "both"))) jc)) (ja (jj (ja (fC (.da (.str "only"))) (ja (fC (.da (.str "a"))) (ja (fC (.da (.str "b"))) (ja (jj (fVs (bM D.da [.int 0,.int 0]))) jc))))) (ja (jj (fVs (bM D.da [.str "place",.str "a",.str "b",.bool true]))) jc))))))) (.nm 3) (jp (jv (j2 (jd 2 xc (ja (fC (.da (.int 2))) (ja (jb 3) jc))))) (jh (fC (.da (.bool false)))) jl))
  (jf (jw 4 (fOp (jo false) (fC (.da (.int 1))) (jd 2 jg (ja (jb 1) (ja (fC (.da (.int 3))) jc)))))
  (jf (zq (fIt (jd 2 zf (ja (jb 1) (ja (jb 4) jc)))) (.nm 5) (jf (jw 6 (jd 2 (jq 24) (ja (jb 1) (ja (jb 5) jc))))
  (zq (fIt (fOp (jo false) (kv false (ja (jb 5) (ja (jb 6) (ja (jd 2 (jq 24) (ja (jb 1) (ja (jb 6) jc))) (ja (jd 2 (jq 24) (ja (jb 1) (ja (jb 5) jc))) jc))))) (fCB (aae false) (ja (fSl false (jb 5) (kh (fC (.da (.int 1)))) (kh (fC (.da (.int 2))))) jc)))) (.nm 3) (jp (jv (j2 (jd 2 xc (ja (jb 4) (ja (jb 3) jc))))) (jh (fC (.da (.bool false)))) jl))))
  (jh (fC (.da (.bool true)))))))))
def avp:FF:=jx 7 Blaw
theorem a90:avp [a0] s=(Blaw [some a0,none,none,none,none,none,none] s).bind jn:=rfl
theorem sclaw:FnScope ["_law_script","_law_feed_here","_law_some","_law_thing","_law_things","_law_part_here","_law_bent_here"] ["_law_script"] (je ab8):=⟨rfl,rfl,rfl,by decide+kernel,rfl,by decide+kernel,by decide+kernel⟩
theorem a7r{f:Addr}(F:Fun K "law" "law" ab8 f fd)(T:Txt0 K mg):FnOk P w K mg base (CX1 P w) 27 f fd ["_law_script"] (spF K 1 avp):=by
 have sc:=sclaw
 exact fnF (k:=26) F sc rfl rfl fun f cdv A outer s H E I hx hr=> by
  unfold Blaw
  walk_at "dr"
end Ln
namespace PF
open PySem PySem.Spec PyProof.Rows
open L2
variable[XW]
end PF
namespace PF
open PySem L2
variable{ρ:En}{s:S}{ct:a9s}{f m C:Str}{n k:Nat}{fs:List (Str×D)}{x d:D}
end PF
local macro_rules | `(tactic| walk_at "ev") => do
  let ns := "PF.R.calm_ok PF.R.at_ok PF.R.W_calm PF.R.W_at PF.bav PF.bbp PF.bdh PF.bbm PF.bat PF.a9r PF.a8o PF.a8s PF.a8n PF.a7k PF.bap PF.ban PF.bae PF.baq PF.baz PF.a7x PF.be1 PF.bda PF.bcv PF.e_c PF.bbz PF.bc9 PF.bca PF.bbq PF.bcf PF.bc4 PF.bc8 PF.bbc PF.az1 PF.bbh PF.bc5 PF.bdi PF.bcd PF.bbg PF.bcp PF.baj PF.azh PF.bdo PF.azo PF.bd5 PF.bdy PF.bci PF.bbf PF.bbd PF.aow PF.bbo PF.bcy PF.bc1 PF.bah PF.bag PF.bbu PF.bbj PF.bak PF.bd0 PF.bdr PF.bco PF.bbb PF.bdj PF.bdb PF.bai PF.a92 PF.a9j PF.a8w PF.a9c PF.bcs PF.be3 PF.bby PF.bam PF.ajt PF.bdp PF.bd6 PF.bdw PF.be8 PF.bd9 PF.bdv PF.be6 PF.be4 PF.bdq PF.bds PF.bdz PF.bdx PF.be7 PF.bdc PF.bdm PF.bde PF.be5 PF.bbk PF.bb2 PF.bd7 PF.bc3 PF.bce PF.bd8 PF.bbt PF.bct PF.bbr PF.be2 PF.bbs PF.bb4 PF.bac PF.bao PF.ba9 PF.a17 PF.bau PF.bay PF.a95 PF.a9x PF.a8p PF.a8m PF.bas PF.bar PF.bax PF.aux PF.bcq PF.bcj PF.bb0 PF.baw PF.baf PF.a9t PF.a8u PF.a9y PF.bdu PF.bdn PF.bcz PF.bcu PF.bcw PF.bba PF.bdt PF.bbn PF.bcg PF.bcx PF.apd PF.a2w PF.a1j PF.a33 PF.be0 PF.bc2 PF.bb8 PF.awb PF.amf PF.an3 PF.aly PF.bdl PF.R.bind_ok' PF.R.W_ok' PF.R.Wk_app PF.bb5 PF.bb6 PF.bcn PF.bcc PF.bch PF.bc0 PF.bck PF.azc Bool.not_true Bool.not_false decide_true decide_false Bool.and_true Bool.and_false Bool.true_and Bool.false_and List.length_append List.length_cons List.length_nil List.append_assoc List.cons_append List.nil_append Nat.zero_add Nat.reduceAdd PF.bdd PF.bdg PF.bb1 PF.bab Nat.reduceLeDiff PF.it0 PF.it1 PF.it2 PF.it3 if_true if_false Bool.false_eq_true".splitOn " "
  let ids : Array (io `term) := ns.toArray.map fun n => bT n.toName
  `(tactic| try simp only [$[$ids:term],*])
local macro_rules | `(tactic| walk_at "go") => `(tactic| (walk_at "ev"; (try simp only [PF.R.W_bindk, PF.R.W_at, PF.R.W_calm])))
namespace Ln
open PySem L2 PF
section
variable{s:S}{n:Nat}{a b c d v:D}
theorem ix4(k:Nat){ds:List D}{x:D}(hl:n < s.length)(h:ds[k]?=some x):gIx (.ref n) (.int (k:Int)) (s.set n (.lst ds))=.ok x (s.set n (.lst ds)):=ap0 (bN hl) h
theorem st4(k:Nat){ds:List D}(hl:n < s.length)(h:k < ds.length):abt (.ref n) (.int (k:Int)) v (s.set n (.lst ds))=.ok .non (s.set n (.lst (ds.set k v))):=by
 rw [am1 (bN hl) h,List.set_set]
theorem ix0(hl:n < s.length):gIx (.ref n) (.int 0) (s.set n (.lst [a,b,c,d]))=.ok a (s.set n (.lst [a,b,c,d])):=ix4 0 hl rfl
theorem ix1(hl:n < s.length):gIx (.ref n) (.int 1) (s.set n (.lst [a,b,c,d]))=.ok b (s.set n (.lst [a,b,c,d])):=ix4 1 hl rfl
theorem ix2(hl:n < s.length):gIx (.ref n) (.int 2) (s.set n (.lst [a,b,c,d]))=.ok c (s.set n (.lst [a,b,c,d])):=ix4 2 hl rfl
theorem ix3(hl:n < s.length):gIx (.ref n) (.int 3) (s.set n (.lst [a,b,c,d]))=.ok d (s.set n (.lst [a,b,c,d])):=ix4 3 hl rfl
theorem st1(hl:n < s.length):abt (.ref n) (.int 1) v (s.set n (.lst [a,b,c,d]))=.ok .non (s.set n (.lst [a,v,c,d])):=st4 1 hl (by simp)
theorem st2(hl:n < s.length):abt (.ref n) (.int 2) v (s.set n (.lst [a,b,c,d]))=.ok .non (s.set n (.lst [a,b,v,d])):=st4 2 hl (by simp)
theorem st3(hl:n < s.length):abt (.ref n) (.int 3) v (s.set n (.lst [a,b,c,d]))=.ok .non (s.set n (.lst [a,b,c,v])):=st4 3 hl (by simp)
end
structure Fd (s:S) (n c:Nat):Prop where
 ex: ∃(xs:List Int) (i j k:Int),s[n]?=some (.lst [.lst (xs.map aD),.int i,.int j,.int k])/\xs.length <=63/\0 <=i/\0 <=k/\k <=c
theorem Fd.lt(h:Fd s n c):n < s.length:=by
 obtain⟨xs,i,j,k,e,_⟩:=h.ex
 exact (aE.mp e).1
theorem afv{xs:List Int}{k:Int}(hl:n < s.length)(hx:xs.length <=63)(hi:0 <=i)(hk:0 <=k)(hc:k <=c):Fd (s.set n (.lst [.lst (xs.map aD),.int i,.int j,.int k])) n c:=⟨xs,i,j,k,bN hl,hx,hi,hk,hc⟩
theorem ak2(xs:List ag):aM (.list xs) (.list [])=xs.isEmpty:=by cases xs <;> rfl
theorem am3: ∀xs:List Int,bh (xs.map aD)=true
 |[]=> rfl
 |x::r=> by simp only [aP,bh,gA,am3 r,gT]
theorem aj0: ∀xs:List Int,aN (xs.map aD) <=1
 |[]=> by (simp [aN])
 |x::r=> by simp only [aP,aN,aJ];have:=aj0 r;lia
theorem ahd(xs:List Int):okD (.list (xs.map aD))=true:=by
 unfold okD
 rw [aG]
 refine⟨by simp only [gA];exact am3 xs,decide_eq_true ?_⟩
 simp only [aJ]
 have:=aj0 xs
 lia
theorem j8(h:Fd s n c)(hm:0 < m)(hm2:m < 1073741824)(hc:c < 2^40):(jg [.ref n,.int m] s).W fun d s'=> ∃i,d=.int i/\0 <=i/\i < m/\Fd s' n (c+1)/\kc n s s':=by
 obtain⟨xs,i,j,k,e,hx,hi,hk,hkc⟩:=h.ex
 have hl:n < s.length:=(aE.mp e).1
 have e0:jg [.ref n,.int m] s=jg [.ref n,.int m] (s.set n (.lst [.lst (xs.map aD),.int i,.int j,.int k])):=by rw [axs e]
 rw [e0,ara];unfold B_law_draw
 have fin: ∀x:Int,0 <=x % m/\x % m < m:=fun x=> ⟨Int.emod_nonneg _ (by lia),Int.emod_lt_of_pos _ hm⟩
 have p18: ∀s:S,aqu (.int 10) (.int 18) s=.ok (.int 1000000000000000000) s:=fun s=> axb (by decide) (by decide) (by decide)
 by_cases hj:0 < j
 ·simp [ix0 hl,ix1 hl,ix2 hl,ix3 hl,st1 hl,st2 hl,st3 hl,hj,xt hm,zl hm hm2]
  exact⟨(fin _).1,(fin _).2,afv hl hx hi (by lia) (by lia),aca⟩
 ·have q1: ∀(x:Int) (s:S),aam (.int x) (.int 998244353) s=.ok (.int (x % 998244353)) s:=fun x s=> xt (by decide)
  have q2: ∀(x:Int) (s:S),aav (.int 5003) (.int x) s=.ok (.int (5003*x)) s:=fun x s=> acl (.inl (by decide))
  have q3: ∀(x:Int) (s:S),aav (.int x) (.int 69621) s=.ok (.int (x*69621)) s:=fun x s=> acl (.inr (by decide))
  have q4: ∀(x:Int) (s:S),aam (.int x) (.int 2147483629) s=.ok (.int (x % 2147483629)) s:=fun x s=> xt (by decide)
  have q5: ∀(x:Int) (s:S),af7 (.int x) (.int 13) s=.ok (.int (x/13)) s:=fun x s=> zl (by decide) (by decide)
  have q6: ∀(x:Int) (s:S),aav (.int 7919) (.int x) s=.ok (.int (7919*x)) s:=fun x s=> acl (.inl (by decide))
  have q7: ∀(x:Int) (s:S),aav (.int x) (.int (k+1)) s=.ok (.int (x*(k+1))) s:=fun x s=> acl (.inr (by lia))
  have q8: ∀(x:Int) (s:S),aav (.int x) (.int 48271) s=.ok (.int (x*48271)) s:=fun x s=> acl (.inr (by decide))
  have q9: ∀(x:Int) (s:S),aam (.int x) (.int 2147483587) s=.ok (.int (x % 2147483587)) s:=fun x s=> xt (by decide)
  have q10: ∀(x:Int) (s:S),af7 (.int x) (.int 64) s=.ok (.int (x/64)) s:=fun x s=> zl (by decide) (by decide)
  have qe: ∀(s:S),gNe (.lst (xs.map aD)) (.lst []) s=.ok (.bl (!xs.isEmpty)) s:=fun s=> by
   rw [acj (ahd xs) rfl,ak2]
   cases xs <;> rfl
  cases hxs:xs with
  |nil=>
   subst hxs
   have qe0: ∀s:S,gNe (.lst []) (.lst []) s=.ok (.bl false) s:=fun s=> acj rfl rfl
   simp [qe0,ix0 hl,ix1 hl,ix2 hl,ix3 hl,st1 hl,st2 hl,st3 hl,hj,xt hm,zl hm hm2,p18,q1,q2,q3,q4,q5,q6,q7,q8,q9,q10,qe]
   exact⟨(fin _).1,(fin _).2,afv (xs:=[]) hl (by simp) (by lia) (by lia) (by lia),aca⟩
  | cons y ys=>
   have hne:xs≠ []:=by rw [hxs];simp
   have hlen:0 < (xs.length:Int):=by rw [hxs];simp
   rw [←hxs]
   have qe':xs.isEmpty=false:=by rw [hxs];rfl
   have ixx: ∀s:S,gIx (.lst (xs.map aD)) (.int (i % (xs.length:Int))) s=.ok (.int (xs.getD (i % (xs.length:Int)).toNat 0)) s:=fun s=> by
    have h0:=Int.emod_nonneg i (show (xs.length:Int)≠0 by lia)
    have h1:=Int.emod_lt_of_pos i hlen
    obtain⟨q,hq⟩: ∃q:Nat,i % (xs.length:Int)=q:=⟨(i % (xs.length:Int)).toNat,by lia⟩
    rw [hq]
    have hlt:q < xs.length:=by lia
    rw [agh (p:=.int (xs.getD q 0)) (by rw [aL,ar hlt,bH,ar hlt];rfl)]
    rfl
   generalize hcell:xs.getD (i % (xs.length:Int)).toNat 0=cell at ixx
   have qm: ∀s:S,aam (.int i) (.int (xs.length:Int)) s=.ok (.int (i % (xs.length:Int))) s:=fun s=> xt hlen
   by_cases hb:1000000000000000000 <=cell
   ·by_cases hb2:i+1 <=(xs.length:Int)
    ·simp [ix0 hl,ix1 hl,ix2 hl,ix3 hl,st1 hl,st2 hl,st3 hl,hj,xt hm,zl hm hm2,p18,q1,q2,q3,q4,q5,q6,q7,q8,q9,q10,qe,qe',ixx,qm,hb,hb2]
     exact⟨(fin _).1,(fin _).2,afv hl hx (by lia) (by lia) (by lia),aca⟩
    ·simp [ix0 hl,ix1 hl,ix2 hl,ix3 hl,st1 hl,st2 hl,st3 hl,hj,xt hm,zl hm hm2,p18,q1,q2,q3,q4,q5,q6,q7,q8,q9,q10,qe,qe',ixx,qm,hb,hb2]
     exact⟨(fin _).1,(fin _).2,afv hl hx (by lia) (by lia) (by lia),aca⟩
   ·simp [ix0 hl,ix1 hl,ix2 hl,ix3 hl,st1 hl,st2 hl,st3 hl,hj,xt hm,zl hm hm2,p18,q1,q2,q3,q4,q5,q6,q7,q8,q9,q10,qe,qe',ixx,qm,hb]
    exact⟨(fin _).1,(fin _).2,afv hl hx (by lia) (by lia) (by lia),aca⟩
theorem Fd.le{c':Nat}(h:Fd s n c)(hc:c <=c'):Fd s n c':=by
 obtain⟨xs,i,j,k,e,hx,hi,hk,hkc⟩:=h.ex
 exact⟨xs,i,j,k,e,hx,hi,hk,by lia⟩
theorem Fd.ext{s':S}(h:Fd s n c)(x:Ext s s'):Fd s' n c:=by
 obtain⟨xs,i,j,k,e,r⟩:=h.ex
 exact⟨xs,i,j,k,x.get e,r⟩
theorem Fd.set{o:O}(h:Fd s n c)(hk:k≠n):Fd (s.set k o) n c:=by
 obtain⟨xs,i,j,q,e,r⟩:=h.ex
 exact⟨xs,i,j,q,by rw [a8 hk];exact e,r⟩
theorem asm{α β:Type}(f:α -> β)(l:List α)(k:Nat):(l.map f).eraseIdx k=(l.eraseIdx k).map f:=by
 induction l generalizing k with -- own
 |nil=> rfl
 |cons x r ih=>
  cases k with
  |zero=> rfl
  |succ k=> simp [ih]
theorem aa4{α:Type}{l:List α}{x:α}(h:l[k]?=some x):(x::l.eraseIdx k).Perm l:=by
 induction l generalizing k with -- own
 |nil=> simp at h
 | cons y r ih=>
  cases k with
  |zero=> simp at h;subst h;exact lM _
  |succ k=>
   have:=ih (k:=k) (by simpa using h)
   rw [kK]
   exact (lc.swap y x _).trans (this.cons y)
structure ShufJ (s:S) (n c:Nat) (xs:List ag) (r:List D) (ρ:En) (s':S):Prop where
 ex: ∃(ls fs:List ag) (u:Option D) (c':Nat),ρ=[some (.ref n),some (.lst xs),some (.ref s.length),some (.ref (s.length+1)),u]/\s'[s.length]?=some (.lst (ls.map D.da))/\s'[s.length+1]?=some (.lst (fs.map D.da))/\
  (fs++ls).Perm xs/\ls.length=r.length/\Fd s' n c'/\c'+r.length <=c+xs.length/\kc n s s'
theorem a6a:jr [.ref s.length] (s++ [O.lst (xs.map D.da),O.lst []])=.ok (.int xs.length) (s++ [O.lst (xs.map D.da),O.lst []]):=by
 rw [aq1 (ds:=xs.map D.da) (by simp),ao]
theorem a5d(hx:xs.length <=1000)(s:S):an2 [.int xs.length] s=.ok (yg 0 xs.length,none) s:=by rw [ade (by lia) (by lia)];rfl
theorem a5v(h:Fd s n c):ShufJ s n c xs (yg 0 xs.length) [some (.ref n),some (.lst xs),some (.ref s.length),some (.ref (s.length+1)),none] (s++ [O.lst (xs.map D.da),O.lst []]):=
 ⟨xs,[],none,c,rfl,by simp,by simp,by simp,by rw [qv],h.ext (Ext.add _ _),by rw [qv];lia,(Ext.add _ _).same n⟩
def azk:FS:=xa (fMt vd (jb 3) (ja (fMt abn (jb 2) (ja (jd 2 jg (ja (jb 0) (ja (fCB jr (ja (jb 2) jc)) jc))) jc)) jc))
theorem a1w{ls fs:List ag}{d:D}{Q:Fl -> S -> Prop}(hl:s1[s.length]?=some (.lst (ls.map D.da)))(hf:s1[s.length+1]?=some (.lst (fs.map D.da)))(k:(jg [.ref n,.int ls.length] s1).W fun i s2=> (abn (.ref s.length) [i] s2).W fun y s3=> (vd (.ref (s.length+1)) [y] s3).W fun _ s4=> Q (.nx [some (.ref n),some (.lst xs),some (.ref s.length),some (.ref (s.length+1)),some d]) s4):
  (azk [some (.ref n),some (.lst xs),some (.ref s.length),some (.ref (s.length+1)),some d] s1).W Q:=by
 have e3:jr [.ref s.length] s1=.ok (.int ls.length) s1:=by rw [aq1 hl,ao]
 unfold azk
 walk_at "ev"
 rw [agm hf]
 walk_at "ev"
 rw [agm hl]
 walk_at "ev"
 rw [e3]
 walk_at "ev"
 simp only [R.W_bindk,R.W_at]
 refine R.W_mono k fun i s2 q=> ?_
 walk_at "ev"
 exact q
theorem a0o{c':Nat}{ls fs:List ag}{d:D}(hx:xs.length <=1000)(hc:c+xs.length < 2^40)(hn:n < s.length)(hl:s1[s.length]?=some (.lst (ls.map D.da)))(hf:s1[s.length+1]?=some (.lst (fs.map D.da)))(pm:(fs++ls).Perm xs)(ln:ls.length=r.length+1)(fd:Fd s1 n c')(hcc:c'+(r.length+1) <=c+xs.length)(sm:kc n s s1):
  (jg [.ref n,.int ls.length] s1).W fun i s2=> (abn (.ref s.length) [i] s2).W fun y s3=> (vd (.ref (s.length+1)) [y] s3).W fun _ s4=> ShufJ s n c xs r [some (.ref n),some (.lst xs),some (.ref s.length),some (.ref (s.length+1)),some d] s4:=by
 have hpl:=pm.length_eq
 rw [bv]at hpl
 refine R.W_mono (j8 fd (by lia) (by lia) (by lia)) ?_
 rintro _ s2 ⟨i,rfl,h0,h1,fd2,sm2⟩
 obtain⟨q,rfl⟩: ∃q:Nat,i=(q:Int):=⟨i.toNat,by lia⟩
 have hq:q < ls.length:=by lia
 have l1:s.length < s1.length:=(aE.mp hl).1
 have l2:s.length+1 < s1.length:=(aE.mp hf).1
 have hl2:s2[s.length]?=some (.lst (ls.map D.da)):=by rw [sm2.get _ (by lia) l1];exact hl
 have hf2:s2[s.length+1]?=some (.lst (fs.map D.da)):=by rw [sm2.get _ (by lia) l2];exact hf
 have hq2:(ls.map D.da)[q]?=some (D.da ls[q]):=by rw [aL,ar hq];rfl
 rw [axv hl2 hq2 (by rw [ao];lia),R.W_ok]
 have hf3:(s2.set s.length (.lst ((ls.map D.da).eraseIdx q)))[s.length+1]?=some (.lst (fs.map D.da)):=by rw [a8 (by lia)];exact hf2
 rw [acy (d:=D.da ls[q]) hf3 (by rw [ao];lia),R.W_ok]
 refine⟨ls.eraseIdx q,fs++ [ls[q]],_,c'+1,rfl,?_,?_,?_,?_,?_,by lia,?_⟩
 ·rw [a8 (by lia),bN (aU l1 sm2.len),asm]
 ·rw [bN (by simp;exact aU l2 sm2.len)]
  simp
 ·refine lc.trans ?_ pm
  rw [cQ]
  exact (aa4 (ar hq)).append_left fs
 ·rw [List.length_eraseIdx,if_pos hq];lia
 ·exact (fd2.set (by lia)).set (by lia)
 ·exact ((sm.trans sm2).own (by lia)).own (by lia)
theorem aga(h:Fd s n c)(hx:xs.length <=1000)(hc:c+xs.length < 2^40):(k7 [.ref n,.lst xs] s).W fun d s'=> ∃ys,d=.lst ys/\ys.Perm xs/\Fd s' n (c+xs.length)/\kc n s s':=by
 rw [aju];unfold B_law_shuffled
 have hn:=h.lt
 walk_at "ev"
 rw [a6a]
 walk_at "ev"
 rw [a5d hx]
 walk_at "ev"
 simp only [R.W_bindk,R.W_at]
 refine zw (ShufJ s n c xs) ?_ ?_ _ _ _ (a5v h)
 ·rintro d r ρ s1 ⟨ls,fs,u,c',rfl,hl,hf,pm,ln,fd,hcc,sm⟩
  exact⟨_,rfl,a1w hl hf (a0o hx hc hn hl hf pm ln fd hcc sm)⟩
 ·rintro ρ s1 ⟨ls,fs,u,c',rfl,hl,hf,pm,ln,fd,hcc,sm⟩
  have:ls=[]:=eS.mp ln
  subst this
  walk_at "ev"
  rw [a2z hf (qw fs)]
  walk_at "ev"
  exact⟨fs,rfl,by rw [cn]at pm;exact pm,(fd.set (by lia)).le hcc,sm.own (by lia)⟩
noncomputable def prB(x:Str):Bool:=(decide (1 <=x.length)&&decide (x.length <=8))&&x.cps.toList.all fun c=> decide (97 <=c)&&decide (c <=122)
noncomputable def aih:List (List Str):=[["a","b","c","d","e","f","g","h"],["net","end","within","place","last","to","a","table"],["a","ab","abc","abcd","b","ba","abcdefgh","abcdefgi"],["zzzzzzzz","z","zz","y","only","onlya","copy","aa"]]
theorem aw1: ∀p∈aih,p.length=8/\p.Nodup/\ ∀x∈p,prB x=true:=by decide+kernel
theorem anu{α:Type}(l:List α)(t:Nat)(h:t <=l.length):qh l (some (t:Int)) none=l.drop t:=by
 unfold qh
 rw [HT.sIx_nat,HT.sIx_none,Nat.min_eq_left h,dO (by simp)]
theorem aac{α:Type}(l:List α)(t:Nat):qh l none (some (t:Int))=l.take t:=by
 unfold qh
 rw [HT.sIx_nat,HT.sIx_none,iH,Nat.sub_zero,List.take_eq_take_iff]
 lia
theorem a59{α β:Type}{f:α -> β}{l:List α}{x:α}(h:l[k]?=some x):(l.map f)[k]?=some (f x):=by rw [aL,h];rfl
theorem amx(h:Fd s n c)(hk:k <=8)(hc:c+2 < 2^40):(yb [.ref n,.int (k:Int)] s).W fun d s'=> ∃ps:List Str,d=.lst (ps.map aF)/\ps.length=k/\ps.Nodup/\(∀x∈ps,prB x=true)/\Fd s' n (c+2)/\kc n s s':=by
 rw [aob];unfold B_law_ports
 have hn:=h.lt
 walk_at "ev"
 have g0: ∀(x y:D),(s++ [O.lst [x,y]])[s.length]?=some (O.lst [x,y]):=fun x y=> by simp
 rw [agm (g0 _ _)]
 walk_at "ev"
 rw [acy (g0 _ _) (by simp)]
 walk_at "ev"
 have g1: ∀(x y z:D),((s++ [O.lst [x,y]]).set s.length (O.lst ([x,y]++ [z])))=s++ [O.lst [x,y,z]]:=fun x y z=> by simp
 have g2: ∀(x y z:D),(s++ [O.lst [x,y,z]])[s.length]?=some (O.lst [x,y,z]):=fun x y z=> by simp
 have g3: ∀(x y z w:D),((s++ [O.lst [x,y,z]]).set s.length (O.lst ([x,y,z]++ [w])))=s++ [O.lst [x,y,z,w]]:=fun x y z w=> by simp
 simp only [cK,cV]at g1 g3
 rw [g1,agm (g2 _ _ _)]
 walk_at "ev"
 rw [acy (g2 _ _ _) (by simp)]
 walk_at "ev"
 rw [g3]
 have e4: ∀x:List D,x=aih.map (fun p=> D.lst (p.map aF)) -> ∀i:Nat,i < 4 -> ∃p∈aih,x[i]?=some (D.lst (p.map aF)):=by
  rintro _ rfl i hi
  have hl:i < aih.length:=hi
  exact⟨aih[i],cz hl,by rw [aL,ar hl];rfl⟩
 generalize hp:([_,_,_,_]:List D)=P0
 have e5:=e4 P0 (by rw [←hp];rfl)
 have hP:(s++ [O.lst P0])[s.length]?=some (O.lst P0):=by simp
 clear hp g0 g1 g2 g3 e4
 walk_at "go"
 refine R.W_mono (j8 (h.ext (Ext.add s _)) (by decide) (by decide) (by lia)) ?_
 rintro _ s1 ⟨i,rfl,h0,h1,fd1,sm1⟩
 obtain⟨q,rfl⟩: ∃q:Nat,i=(q:Int):=⟨i.toNat,by lia⟩
 obtain⟨p,pm,hp⟩:=e5 q (by lia)
 obtain⟨pl,pn,pk⟩:=aw1 p pm
 have hP1:s1[s.length]?=some (O.lst P0):=by rw [sm1.get _ (by lia) (by simp)];exact hP
 walk_at "go"
 rw [ap0 hP1 hp]
 walk_at "go"
 refine R.W_mono (j8 fd1 (by decide) (by decide) (by lia)) ?_
 rintro _ s2 ⟨j,rfl,j0,j1,fd2,sm2⟩
 obtain⟨t,rfl⟩: ∃t:Nat,j=(t:Int):=⟨j.toNat,by lia⟩
 walk_at "go"
 rw [aau (by simp [qh];lia)]
 walk_at "go"
 rw [anu _ _ (by rw [ao];lia),aac,aac,←List.map_drop,←mw,←lj,←mw]
 refine⟨_,rfl,?_,?_,fun x hx=> ?_,fd2,((Ext.add s _).same n).trans (sm1.trans sm2)⟩
 ·simp;lia
 ·refine List.Nodup.sublist (gE _ _) ?_
  have:(p.drop t++p.take t).Perm p:=by
   refine lR.trans ?_
   rw [hW]
  exact this.nodup_iff.mpr pn
 ·have:=cx hx
  rcases bI.mp this with z|z
  ·exact pk x (cN z)
  ·exact pk x (cx z)
theorem a2s{x:Str}(h1:okD (.str x)=true)(h2:okD (.str y)=true):gEq (.str x) (.str y) s=.ok (.bl (decide (x=y))) s:=by
 rw [ac8 h1 h2]
 have:aM (.str x) (.str y)=decide (x=y):=by
  show (x==y)=_
  (rw [aW,beq_iff_eq,decide_eq_true_eq])
 rw [this]
theorem ky{x:Str}(h:okD (.str x)=true/\okD (.str y)=true/\decide (x=y)=b)(s:S):gEq (.str x) (.str y) s=.ok (.bl b) s:=by rw [a2s h.1 h.2.1,h.2.2]
theorem aht{w:Str}: ∀ss:List Str,((ss.map aF).any fun d=> aM d (.str w))=decide (w∈ss)
 |[]=> by simp
 | x::r=> by
  rw [aP,i8,aht r]
  have:aM (.str x) (.str w)=decide (x=w):=by
   show (x==w)=_
   (rw [aW,beq_iff_eq,decide_eq_true_eq])
  rw [this,aW,kX,decide_eq_true_eq,decide_eq_true_eq,decide_eq_true_eq,aw]
  exact⟨fun h=> h.imp Eq.symm id,fun h=> h.imp Eq.symm id⟩
theorem all_strs(h: ∀x∈ss,okD (.str x)=true):(ss.map aF).all okD=true:=by
 rw [aI]
 intro d hd
 obtain⟨x,hx,rfl⟩:=bB.mp hd
 exact h x hx
theorem ax5{w:Str}(h1:okD (.str w)=true)(h2: ∀x∈ss,okD (.str x)=true):gIn (.str w) (.tup (ss.map aF)) s=.ok (.bl (decide (w∈ss))) s:=by
 show (if okD (.str w)=true/\(ss.map aF).all okD=true then R.ok (D.bl (nb false ((ss.map aF).any fun d=> aM d (.str w)))) s else .bad)=_
 rw [if_pos ⟨h1,all_strs h2⟩,aht];rfl
theorem kx{w:Str}(ss:List Str){l:List ag}(e:l=ss.map aF)(h:okD (.str w)=true/\(∀x∈ss,okD (.str x)=true)/\decide (w∈ss)=b)(s:S):gIn (.str w) (.tup l) s=.ok (.bl b) s:=by
 subst e
 rw [ax5 h.1 h.2.1,h.2.2]
inductive PartD (m:Int) (ps:List Str):ag -> List Str -> Prop
 |two {w a b:Str}:w∈(["both","loose","drain","either"]:List Str) -> a∈ps -> b∈ps -> a≠b -> PartD m ps (.tuple [.str w,.str a,.str b]) [a,b]
 |held {w a b:Str} {x:ag}:w∈(["place","last"]:List Str) -> a∈ps -> b∈ps -> a≠b -> (x=.none\/ ∃i,x=.int i/\0 <=i/\i < m) -> PartD m ps (.tuple [.str w,.str a,.str b,x]) [a,b]
 |only {a b:Str} {ts:List Int}:a∈ps -> b∈ps -> a≠b -> (∀t∈ts,0 <=t/\t < m) -> ts.length <=m -> ts.Pairwise (· < ·) -> PartD m ps (.tuple [.str "only",.str a,.str b,.tuple (ts.map .int)]) [a,b]
 |copy {a:Str} {bs:List Str}:a∈ps -> (∀b∈bs,b∈ps) -> 1 <=bs.length/\bs.length <=4 -> (a::bs).Nodup -> PartD m ps (.tuple [.str "copy",.str a,.tuple (bs.map .str)]) (a::bs)
 |merge {a:Str} {bs:List Str}:a∈ps -> (∀b∈bs,b∈ps) -> 1 <=bs.length/\bs.length <=4 -> (a::bs).Nodup -> PartD m ps (.tuple [.str "merge",.tuple (bs.map .str),.str a]) (bs++ [a])
noncomputable def ag5:List Str:=["both","loose","place","last","drain","either","only","copy","merge","place"]
structure WordIs (w:Str) (b1 b2 b3 b4:Bool):Prop where
 i1: ∀s,gIn (.str w) (.tup [.str "copy",.str "merge"]) s=.ok (.bl b1) s
 i2: ∀s,gEq (.str w) (.str "copy") s=.ok (.bl b2) s
 i3: ∀s,gIn (.str w) (.tup [.str "place",.str "last"]) s=.ok (.bl b3) s
 i4: ∀s,gEq (.str w) (.str "only") s=.ok (.bl b4) s
 i5:(b1=true/\b2=true/\w="copy")\/(b1=true/\b2=false/\w="merge")\/(b1=false/\b3=true/\w∈(["place","last"]:List Str))\/(b1=false/\b3=false/\b4=true/\w="only")\/(b1=false/\b3=false/\b4=false/\w∈(["both","loose","drain","either"]:List Str))
theorem a1p(w:Str)(h:w∈ag5): ∃b1 b2 b3 b4,WordIs w b1 b2 b3 b4:=by
 have h:w="both"\/w="loose"\/w="place"\/w="last"\/w="drain"\/w="either"\/w="only"\/w="copy"\/w="merge"\/w="place":=by simpa [ag5] using h
 rcases h with rfl|rfl|rfl|rfl|rfl|rfl|rfl|rfl|rfl|rfl
 ·exact⟨false,false,false,false,kx ["copy","merge"] rfl (by decide+kernel),ky (by decide+kernel),kx ["place","last"] rfl (by decide+kernel),ky (by decide+kernel),by decide⟩
 ·exact⟨false,false,false,false,kx ["copy","merge"] rfl (by decide+kernel),ky (by decide+kernel),kx ["place","last"] rfl (by decide+kernel),ky (by decide+kernel),by decide⟩
 ·exact⟨false,false,true,false,kx ["copy","merge"] rfl (by decide+kernel),ky (by decide+kernel),kx ["place","last"] rfl (by decide+kernel),ky (by decide+kernel),by decide⟩
 ·exact⟨false,false,true,false,kx ["copy","merge"] rfl (by decide+kernel),ky (by decide+kernel),kx ["place","last"] rfl (by decide+kernel),ky (by decide+kernel),by decide⟩
 ·exact⟨false,false,false,false,kx ["copy","merge"] rfl (by decide+kernel),ky (by decide+kernel),kx ["place","last"] rfl (by decide+kernel),ky (by decide+kernel),by decide⟩
 ·exact⟨false,false,false,false,kx ["copy","merge"] rfl (by decide+kernel),ky (by decide+kernel),kx ["place","last"] rfl (by decide+kernel),ky (by decide+kernel),by decide⟩
 ·exact⟨false,false,false,true,kx ["copy","merge"] rfl (by decide+kernel),ky (by decide+kernel),kx ["place","last"] rfl (by decide+kernel),ky (by decide+kernel),by decide⟩
 ·exact⟨true,true,false,false,kx ["copy","merge"] rfl (by decide+kernel),ky (by decide+kernel),kx ["place","last"] rfl (by decide+kernel),ky (by decide+kernel),by decide⟩
 ·exact⟨true,false,false,false,kx ["copy","merge"] rfl (by decide+kernel),ky (by decide+kernel),kx ["place","last"] rfl (by decide+kernel),ky (by decide+kernel),by decide⟩
 ·exact⟨false,false,true,false,kx ["copy","merge"] rfl (by decide+kernel),ky (by decide+kernel),kx ["place","last"] rfl (by decide+kernel),ky (by decide+kernel),by decide⟩
theorem a3s{α:Type}{f:α -> ag}{l:List α}{x:α}(h:l[k]?=some x):gIx (.lst (l.map f)) (.int (k:Int)) s=.ok (.da (f x)) s:=agh (a59 h)
theorem adt{l:List ag}{x:ag}(k:Nat)(hi:i=(k:Int))(h:l[k]?=some x):gIx (.lst l) (.int i) s=.ok (.da x) s:=by subst hi;exact agh h
theorem ak3{α:Type}(l:List α)(a b:Nat):qh l (some (a:Int)) (some (b:Int))=(l.drop a).take (min b l.length - min a l.length):=by
 unfold qh
 rw [HT.sIx_nat,HT.sIx_nat]
 by_cases h:a <=l.length
 ·rw [Nat.min_eq_left h]
 ·rw [dP (by lia),dP (by lia)]
theorem aec{α β:Type}{f:α -> β}{l:List α}: ∀{ys:List β},ys.Perm (l.map f) -> ∃qs:List α,qs.Perm l/\qs.map f=ys:=by
 intro ys h
 generalize hz:l.map f=zs at h
 induction h generalizing l with
 |nil=>
  cases l with
  |nil=> exact⟨[],.refl _,rfl⟩
  |cons a b=> cases hz
 | cons x h ih=>
  cases l with
  |nil=> cases hz
  |cons a b=>
   cases hz
   obtain⟨qs,p,e⟩:=ih rfl
   exact⟨a::qs,p.cons a,by rw [aP,e]⟩
 | swap x y r=>
  match l,hz with
  |a::b::c,hz=>
   cases hz
   exact⟨b::a::c,.swap _ _ _,rfl⟩
 |trans h1 h2 ih1 ih2=>
  obtain⟨q2,p2,e2⟩:=ih2 hz
  obtain⟨q1,p1,e1⟩:=ih1 e2
  exact⟨q1,p1.trans p2,e1⟩
structure OnlyJ (s0:S) (n c:Nat) (m:Int) (r acc:List D) (s:S):Prop where
 ex: ∃ts:List Int,acc=ts.map D.int/\(∀t∈ts,0 <=t/\t < m)/\ts.length+r.length <=m/\(∃lo k,r=yg lo k/\0 <=lo/\lo+k <=m/\(∀t∈ts,t < lo)/\ts.Pairwise (· < ·))/\ ∃c',Fd s n c'/\c'+r.length <=c+m.toNat/\kc n s0 s
theorem apn(h:Fd s n c)(hm:1 <=m)(hm3:m <=3)(hp:2 <=ps.length)(hp8:ps.length <=8)(nd:ps.Nodup)(hc:c+ps.length+10 < 2^40):
  (y9 [.ref n,.int m,.lst (ps.map aF)] s).W fun d s'=> ∃p qs,d=.da p/\PartD m ps p qs/\Fd s' n (c+ps.length+5)/\kc n s s':=by
 rw [arj];unfold B_law_part
 walk_at "go"
 refine R.W_mono (aga h (by rw [ao];lia) (by rw [ao];lia)) ?_
 rintro _ s1 ⟨ys,rfl,pm,fd1,sm1⟩
 obtain⟨qs,pmq,rfl⟩: ∃qs:List Str,qs.Perm ps/\qs.map aF=ys:=by
  exact aec pm
 have ql:=pmq.length_eq
 rw [ao]at fd1
 walk_at "go"
 refine R.W_mono (j8 fd1 (by decide) (by decide) (by lia)) ?_
 rintro _ s2 ⟨i,rfl,h0,h1,fd2,sm2⟩
 obtain⟨k,rfl⟩: ∃k:Nat,i=(k:Int):=⟨i.toNat,by lia⟩
 have hk:k < ag5.length:=by show k < 10;lia
 obtain⟨b1,b2,b3,b4,W⟩:=a1p ag5[k] (cz hk)
 generalize hw:ag5[k]=w at W
 walk_at "go"
 rw [show gIx (.lst [.str "both",.str "loose",.str "place",.str "last",.str "drain",.str "either",.str "only",.str "copy",.str "merge",.str "place"]) (.int (k:Int)) s2=.ok (.str w) s2 from a3s (f:=aF) (l:=ag5) (x:=w) (by rw [ar hk,hw])]
 walk_at "ev"
 rw [W.i1]
 obtain⟨q0,q1,qr,rfl⟩: ∃q0 q1 qr,qs=q0::q1::qr:=by
  match qs,ql with
  |[],e=> simp at e;lia
  |[_],e=> simp at e;lia
  |a::b::c,_=> exact⟨a,b,c,rfl⟩
 have nq:(q0::q1::qr).Nodup:=pmq.nodup_iff.mpr nd
 have m0:q0∈ps:=pmq.mem_iff.mp (by simp)
 have n01:q0≠q1:=by simp at nq;exact nq.1.1
 have m1:q1∈ps:=pmq.mem_iff.mp (by simp)
 have x0: ∀s:S,gIx (.lst ((q0::q1::qr).map aF)) (.int 0) s=.ok (.str q0) s:=fun s=> adt 0 rfl rfl
 have x1: ∀s:S,gIx (.lst ((q0::q1::qr).map aF)) (.int 1) s=.ok (.str q1) s:=fun s=> adt 1 rfl rfl
 have many:b1=true -> ∀Q:D -> S -> Prop,(∀(bs:List Str) (s3:S),1 <=bs.length/\bs.length <=4 -> (∀b∈bs,b∈ps) -> (q0::bs).Nodup -> Fd s3 n (c+ps.length+2) -> kc n s s3 -> Q (.tup (bs.map aF)) s3) ->
   (fCB qp (ja (fSl false (jb 3) (kh (fC (D.da (aD 1)))) (kh (fOp (jo false) (fC (D.da (aD 2))) (jd 2 jg (ja (jb 0) (ja (fCB afd (ja (fC (D.da (aD 4))) (ja (fOp PF.y3 (fCB jr (ja (jb 3) jc)) (fC (D.da (aD 1)))) jc))) jc)))))) jc)
    [some (.ref n),some (.int m),some (.lst (ps.map aF)),some (.lst ((q0::q1::qr).map aF)),some (.str w),none] s2).W Q:=fun _ Q hQ=> by
  walk_at "go"
  refine R.W_mono (j8 fd2 (by rw [ao,ql];split <;> lia) (by rw [ao,ql];split <;> lia) (by lia)) ?_
  rintro _ s3 ⟨j,rfl,j0,j1,fd3,sm3⟩
  obtain⟨t,rfl⟩: ∃t:Nat,j=(t:Int):=⟨j.toNat,by lia⟩
  walk_at "go"
  have e2:(2:Int)+(t:Int)=((2+t:Nat):Int):=by lia
  have e1:(1:Int)=((1:Nat):Int):=rfl
  rw [e2,e1,zp,ak3]
  have tb:t < 4:=by
   rw [ao,ql]at j1
   split at j1 <;> lia
  refine hQ _ s3 ?_ ?_ ?_ fd3 (sm1.trans (sm2.trans sm3))
  ·rw [bX];simp;lia
  ·intro b hb
   exact pmq.mem_iff.mp (cN (cx hb))
  ·have:(q0::((q0::q1::qr).drop 1).take (min (2+t) (q0::q1::qr).length - min 1 (q0::q1::qr).length)).Sublist (q0::q1::qr):=(gE _ _).cons₂ q0
   exact this.nodup nq
 clear hw hk
 rcases W.i5 with ⟨rfl,rfl,rfl⟩|⟨rfl,rfl,rfl⟩|⟨rfl,rfl,hw⟩|⟨rfl,rfl,rfl,rfl⟩|⟨rfl,rfl,rfl,hw⟩
 ·simp only [R.W_ok',R.Wk_app,aow,azo,az1,azh,R.W_bindk]
  refine many rfl _ fun bs s3 hl hb hnd fd3 sm3=> ?_
  walk_at "go"
  rw [W.i2]
  walk_at "go"
  rw [x0]
  walk_at "go"
  exact⟨_,_,rfl,.copy m0 hb hl hnd,fd3.le (by lia),sm3⟩
 ·simp only [R.W_ok',R.Wk_app,aow,azo,az1,azh,R.W_bindk]
  refine many rfl _ fun bs s3 hl hb hnd fd3 sm3=> ?_
  walk_at "go"
  rw [W.i2]
  walk_at "go"
  rw [x0]
  walk_at "go"
  exact⟨_,_,rfl,.merge m0 hb hl hnd,fd3.le (by lia),sm3⟩
 ·walk_at "go"
  rw [W.i3]
  walk_at "go"
  rw [x0]
  walk_at "go"
  rw [x1]
  walk_at "go"
  refine R.W_mono (j8 fd2 (by decide) (by decide) (by lia)) ?_
  rintro _ s3 ⟨j,rfl,j0,j1,fd3,sm3⟩
  obtain⟨x,hx,hx2⟩: ∃x:ag,(x=.none\/ ∃i,x=.int i/\0 <=i/\i < m)/\ ∀s:S,gIx (.lst [.none,.none,.int 0,.int (m - 1)]) (.int j) s=.ok (.da x) s:=by
   have:j=0\/j=1\/j=2\/j=3:=by lia
   rcases this with rfl|rfl|rfl|rfl
   ·exact⟨_,.inl rfl,fun s=> adt 0 rfl rfl⟩
   ·exact⟨_,.inl rfl,fun s=> adt 1 rfl rfl⟩
   ·exact⟨_,.inr ⟨0,rfl,by lia,by lia⟩,fun s=> adt 2 rfl rfl⟩
   ·exact⟨_,.inr ⟨m - 1,rfl,by lia,by lia⟩,fun s=> adt 3 rfl rfl⟩
  walk_at "go"
  rw [hx2]
  walk_at "go"
  exact⟨_,_,rfl,.held hw m0 m1 n01 hx,fd3.le (by lia),sm1.trans (sm2.trans sm3)⟩
 ·walk_at "go"
  rw [W.i3]
  walk_at "go"
  rw [W.i4]
  walk_at "go"
  rw [x0]
  walk_at "go"
  rw [x1]
  walk_at "go"
  rw [ade (by lia) (by lia)]
  walk_at "go"
  rw [zh (ρ0:=[none,some (D.ref n)]) (by rw [qv];lia) rfl]
  simp only [R.W_bindk,R.W_at]
  refine R.W_mono (ae5 (acc:=[]) (Q:=fun xs s'=> ∃ts:List Int,xs=ts.map D.int/\(∀t∈ts,0 <=t/\t < m)/\ts.length <=m/\ts.Pairwise (· < ·)/\Fd s' n (c+ps.length+1+m.toNat)/\kc n s s') (OnlyJ s n (c+ps.length+1) m) ?_ ?_ _ _ ?_) ?_
  ·rintro d r acc s3 ⟨ts,rfl,ht,hl,⟨lo,k,hr,l0,lk,hlt,pw⟩,c',fd3,hcc,sm3⟩
   cases k with
   |zero=> cases hr
   | succ k=>
    cases hr
    rw [aQ]at hl hcc
    refine⟨_,azc,?_⟩
    walk_at "go"
    refine R.W_mono (j8 fd3 (by decide) (by decide) (by lia)) ?_
    rintro _ s4 ⟨j,rfl,j0,j1,fd4,sm4⟩
    walk_at "go"
    split
    ·refine⟨ts++ [lo],by simp,fun t h=> ?_,by simp;lia,⟨lo+1,k,rfl,by lia,by lia,fun t h=> ?_,?_⟩,c'+1,fd4,by lia,sm3.trans sm4⟩
     ·rcases bI.mp h with z|z
      ·exact ht t z
      ·have:t=lo:=by simpa using z
       subst this;exact⟨l0,by lia⟩
     ·rcases bI.mp h with z|z
      ·have:=hlt t z;lia
      ·have:t=lo:=by simpa using z
       lia
     ·rw [l7]
      exact⟨pw,kM _ _,fun a ha b hb=> by rw [bd.mp hb];exact hlt a ha⟩
    ·exact⟨ts,rfl,ht,by lia,⟨lo+1,k,rfl,by lia,by lia,fun t h=> by have:=hlt t h;lia,pw⟩,c'+1,fd4,by lia,sm3.trans sm4⟩
  ·rintro acc s3 ⟨ts,rfl,ht,hl,⟨lo,k,hr,l0,lk,hlt,pw⟩,c',fd3,hcc,sm3⟩
   simp only [dZ]at hl hcc
   exact⟨ts,rfl,ht,by lia,pw,fd3.le (by lia),sm3⟩
  ·exact⟨[],rfl,fun t h=> (by cases h),by rw [qv];simp;lia,⟨0,m.toNat,rfl,by lia,by lia,(fun t h=> by cases h),gF⟩,c+ps.length+1,fd2,by rw [qv];lia,sm1.trans sm2⟩
  ·rintro xs s3 ⟨ts,e,ht,hl,pw,fd3,sm3⟩
   rw [cV]at e
   subst e
   rw [show ts.map D.int=(ts.map aD).map D.da by rw [cu];rfl]
   walk_at "go"
   exact⟨_,_,rfl,.only m0 m1 n01 ht hl pw,fd3.le (by lia),sm3⟩
 ·walk_at "go"
  rw [W.i3]
  walk_at "go"
  rw [W.i4]
  walk_at "go"
  rw [x0]
  walk_at "go"
  rw [x1]
  walk_at "go"
  exact⟨_,_,rfl,.two hw m0 m1 n01,fd2.le (by lia),sm1.trans sm2⟩
theorem ab4(i:Int)(h:0 <=i): ∃q:Nat,i=(q:Int):=⟨i.toNat,by lia⟩
theorem za:gEq (.int i) (.int j) s=.ok (.bl (decide (i=j))) s:=by
 rw [ac8 rfl rfl]
 have:aM (.int i) (.int j)=decide (i=j):=by
  show (i==j)=_
  (rw [aW,beq_iff_eq,decide_eq_true_eq])
 rw [this]
theorem yo:gEq (.int i) (.da (.int j)) s=.ok (.bl (decide (i=j))) s:=za
end Ln
namespace PF
open PySem L2
theorem yq{s:S}{ft:FT}{fe:FE}{jt:En}{all:List D}(pr:ag -> Bool)(f:ag -> D): ∀(xs:List ag),(∀x∈xs,ft (some (.da x)::jt) s=.ok (pr x) s) -> (∀x∈xs,pr x=true -> fe (some (.da x)::jt) s=.ok (f x) s) ->
  k9 (.nm 0) ft fe (none::jt) (all,none) (xs.map D.da) s=.ok ((xs.filter pr).map f) s
 |[],_,_=> rfl
 |x::r,h1,h2=> by
  have ih:=yq (all:=all) pr f r (fun y hy=> h1 y (az _ hy)) (fun y hy=> h2 y (az _ hy))
  rw [aP,afe azc,h1 x aB,R.calm_ok,R.bind_ok']
  cases q:pr x with
  |false=> rw [an3,ih,eT (by rw [q];exact aq)]
  |true=> rw [amf,h2 x aB q,R.calm_ok,R.bind_ok',aly,ih,R.bind_ok',ajt,eU q,aP]
theorem aph: ∀bs:List Bool,aee (bs.map D.bl)=some bs
 |[]=> rfl
 |b::r=> by rw [aP,aee,aph r]
theorem ajh{bs:List Bool}:aff [.lst (bs.map cj)] s=.ok (.bl (bs.all id)) s:=by
 show (match (some ((bs.map cj).map D.da)).bind aee with|some bs=> R.ok (D.bl (bs.all id)) s|none=>.bad)=_
 rw [show (bs.map cj).map D.da=bs.map D.bl by rw [cu];rfl]
 show (match aee (bs.map D.bl) with|some bs=> R.ok (D.bl (bs.all id)) s|none=>.bad)=_
 rw [aph]
theorem all_map{f:ag -> Bool}:aff [.lst (xs.map fun x=>.bool (f x))] s=.ok (.bl (xs.all f)) s:=by
 have:xs.map (fun x=> cj (f x))=(xs.map f).map cj:=by rw [cu];rfl
 rw [this,ajh,fF];rfl
theorem aap(i j:Int):aM (.int i) (.int j)=decide (i=j):=by
 show (i==j)=_
 (rw [aW,beq_iff_eq,decide_eq_true_eq])
theorem aah:gNe (.int i) (.int j) s=.ok (.bl (!decide (i=j))) s:=by rw [acj rfl rfl,aap]
end PF
namespace Ln
open PySem L2 PF
theorem abf{α:Type}(l:List α)(t:Nat):qh l (some (t:Int)) none=l.drop t:=by
 by_cases h:t <=l.length
 ·exact anu l t h
 ·unfold qh
  rw [HT.sIx_nat,HT.sIx_none,Nat.min_eq_right (by lia),List.drop_length,dP (by lia)]
  simp
theorem adr{g:S}{o:O}:(s++o::g)[s.length]?=some o:=by simp
theorem ajz{g:S}{o o':O}:(s++o::g).set s.length o'=s++o'::g:=by simp
noncomputable def vz:ag -> Bool
 |.int _=> true
 |_=> false
noncomputable def qu(m:Int):ag -> Bool
 |.int i=> decide (0 <=i)&&decide (i < m)
 |_=> false
theorem aps:abc [.da d] s=.ok (.bl (vz d)) s:=by
 rw [atr];unfold Bis_whole
 walk_at "ev"
 cases d <;> simp only [kj] <;> rfl
theorem a0u:acs [.int m,.da d] s=.ok (.bl (qu m d)) s:=by
 rw [auf];unfold Bis_below
 walk_at "ev"
 rw [aps]
 cases d with
 | int i=>
  simp only [vz]
  walk_at "ev"
  by_cases h0:0 <=i
  ·simp only [h0,decide_true,qu]
   walk_at "ev"
  ·simp only [h0,decide_false,qu]
   walk_at "ev"
 |_=> rfl
theorem apg:abm [.int m,.da d] s=.ok (.bl (qu m d)) s:=by
 rw [aum];unfold Bis_thing
 walk_at "ev"
 rw [a0u];rfl
noncomputable def aj4(c:Nat):Bool:=decide (97 <=c)&&decide (c <=122)
def agq(x:Str):Bool:=(decide (1 <=x.length)&&decide (x.length <=8))&&x.cps.toList.all aj4
def qg:ag -> Bool
 |.str x=> agq x
 |_=> false
noncomputable def asc(x:Str):Bool:=x.cps.toList.all fun c=> decide (9 <=c)&&decide (c < 127)
theorem age{x:Str}(h:asc x=true):x.cps.all (· < 128)=true:=by
 unfold asc at h
 simp only [aI,aG,decide_eq_true_eq]at h
 (rw [←kG,aI])
 intro c hc
 have:=h c hc
 (exact decide_eq_true (by lia))
theorem ala(x:Str):ab9 x=x.cps.toList.map fun c=> D.str ⟨#[c]⟩:=by first|rfl|(unfold ab9;rfl)
theorem at2(h: ∀x,d=.str x -> asc x=true/\x.length <=100000):ac9 [.da d] s=.ok (.bl (qg d)) s:=by
 rw [awj];unfold Bis_port
 walk_at "ev"
 cases d with
 | str x=>
  obtain⟨ha,hl⟩:=h x rfl
  rw [show kj (.str x) "str"=true from rfl]
  walk_at "ev"
  rw [len_str (by lia)]
  walk_at "ev"
  show _=R.ok (D.bl (agq x)) s
  unfold agq
  by_cases h1:1 <=x.length
  ·rw [decide_eq_true (show (1:Int) <=(x.length:Int) by lia),decide_eq_true h1]
   walk_at "ev"
   by_cases h2:x.length <=8
   ·rw [decide_eq_true (show (x.length:Int) <=8 by lia),decide_eq_true h2]
    walk_at "ev"
    rw [a01]
    walk_at "ev"
    rw [aou (age ha)]
    walk_at "ev"
    rw [ala,zh (ρ0:=[none]) (by rw [ao,aK];show x.length <=_;lia) rfl]
    rw [adn (fun c:Nat=> D.str ⟨#[c]⟩) (fun _=> true) (fun c=> cj (aj4 c)) x.cps.toList (fun c hc=> ⟨[some (.str ⟨#[c]⟩)],rfl,rfl,fun _=> by
     walk_at "ev"
     rw [a6l,amr (age ha) c hc];rfl⟩)]
    (rw [dN.mpr (fun _ _=> rfl)])
    walk_at "ev"
    rw [show x.cps.toList.map (fun c=> cj (aj4 c))=(x.cps.toList.map aj4).map cj by rw [cu];rfl,ajh,fF]
    rfl
   ·rw [decide_eq_false (show¬(x.length:Int) <=8 by lia),decide_eq_false h2]
    walk_at "ev"
  ·rw [decide_eq_false (show¬(1:Int) <=(x.length:Int) by lia),decide_eq_false h1]
   walk_at "ev"
 |_=> rfl
noncomputable def ahx(ds:List ag):List Str:=ds.filterMap fun d=> match d with
 |.str x=> some x
 |_=> none
theorem aa2(xs:List Str):ahx (xs.map aF)=xs:=by
 induction xs with
 |nil=> rfl
 |cons x r ih=>
  show x::ahx (r.map aF)=_
  rw [ih]
theorem abb: ∀{ds:List ag},ds.all qg=true -> ∃ss:List Str,ds=ss.map .str/\ ∀x∈ss,agq x=true
 |[],_=> ⟨[],rfl,fun _ h=> by cases h⟩
 |d::r,h=> by
  (rw [dJ,aG]at h)
  obtain⟨ss,rfl,hs⟩:=abb h.2
  cases d with
  | str x=> exact⟨x::ss,rfl,fun y hy=> by
    rcases aw.mp hy with z|z
    ·subst z;exact h.1
    ·exact hs y z⟩
  |_=> exact absurd h.1 aq
def zo(ds:List ag):Bool:=decide ((jk (ahx ds)).length=ds.length)
def j5:ag -> Bool
 |.tuple ds=> ds.all qg&&zo ds
 |_=> false
def aes:ag -> Bool
 |.tuple ds=> (ds.all qg&&zo ds)&&decide (ds.length <=6)
 |_=> false
structure It (d:ag):Prop where
 s: ∀x,d=.str x -> asc x=true/\x.length <=100000
 l:d.canLay0=true
 d:d.depth <=60
theorem It.ok(h:It d):okD d=true:=by
 unfold okD
 rw [h.l,jB]
 exact decide_eq_true (aH h.d (by decide))
theorem aq8: ∀{ds:List ag},(∀x∈ds,It x) -> bh ds=true
 |[],_=> rfl
 |x::r,h=> by simp only [bh,(h x aB).l,aq8 fun y hy=> h y (az _ hy),gT]
theorem yp{x:ag}: ∀{ds:List ag},x∈ds -> x.depth <=aN ds
 |d::r,h=> by
  simp only [aN]
  rcases aw.mp h with e|e
  ·subst e;exact lm _ _
  ·exact aH (yp e) (kI _ _)
theorem yt{n:Nat}: ∀{ds:List ag},(∀x∈ds,x.depth <=n) -> aN ds <=n
 |[],_=> cy _
 |d::r,h=> by
  simp only [aN]
  exact Nat.max_le.mpr ⟨h d aB,yt fun y hy=> h y (az _ hy)⟩
theorem agl(h: ∀x∈ds,It x):okD (.list ds)=true:=by
 unfold okD
 rw [aG]
 refine⟨by simp only [gA];exact aq8 h,decide_eq_true ?_⟩
 simp only [aJ]
 have:=yt fun x hx=> (h x hx).d
 lia
theorem ae4(hl:ds.length <=1000)(hx: ∀x∈ds,It x):ki [.tup ds] s=.ok (.bl (j5 (.tuple ds))) s:=by
 rw [agt];unfold Bare_unlike_ports
 walk_at "ev"
 rw [show kj (.tuple ds) "tuple"=true from rfl]
 walk_at "ev"
 rw [zh (ρ0:=[none]) (by rw [ao];lia) rfl]
 rw [yq (fun _=> true) (fun x=> D.bl (qg x)) ds (fun x _=> rfl) (fun x hm _=> by
  walk_at "ev"
  rw [at2 (hx x hm).s];rfl),dN.mpr (fun _ _=> rfl)]
 rw [show ds.map (fun x=> D.bl (qg x))=(ds.map fun x=> cj (qg x)).map D.da by rw [cu];rfl]
 walk_at "ev"
 rw [all_map]
 show _=R.ok (D.bl (ds.all qg&&zo ds)) s
 cases hp:ds.all qg with
 |false=> walk_at "ev"
 |true=>
  walk_at "ev"
  obtain⟨ss,rfl,hs⟩:=abb hp
  rw [ao]at hl
  rw [ait (by lia)]
  walk_at "ev"
  rw [za]
  walk_at "ev"
  unfold zo
  rw [aa2]
  have e:(((jk ss).length:Int)=((ss.map aF).length:Int))=((jk ss).length=(ss.map aF).length):=propext (by lia)
  congr 3
structure Gv (d:ag):Prop where
 i:It d
 t: ∀ds,d=.tuple ds -> ds.length <=1000/\ ∀x∈ds,It x
theorem akc(h:Gv d):ki [.da d] s=.ok (.bl (j5 d)) s:=by
 cases d with
 |tuple ds=> exact ae4 (h.t ds rfl).1 (h.t ds rfl).2
 |_=> rfl
theorem a5a(h:Gv d):aeh [.da d] s=.ok (.bl (aes d)) s:=by
 rw [ay4];unfold Bis_seen
 walk_at "ev"
 rw [akc h]
 cases d with
 | tuple ds=>
  show _=R.ok (D.bl ((ds.all qg&&zo ds)&&decide (ds.length <=6))) s
  rw [show j5 (.tuple ds)=(ds.all qg&&zo ds) from rfl]
  cases ds.all qg&&zo ds with
  |false=> walk_at "ev"
  |true=>
   walk_at "ev"
   have e:((ds.length:Int) <=6)=(ds.length <=6):=propext (by lia)
   congr 3
 |_=> rfl
noncomputable def y4:ag -> Bool
 |.int i=> decide (1 <=i)&&decide (i <=3)
 |_=> false
theorem avv:abu [.da d] s=.ok (.bl (y4 d)) s:=by
 rw [asa];unfold Bis_things
 walk_at "ev"
 rw [aps]
 cases d with
 | int i=>
  simp only [vz]
  walk_at "ev"
  by_cases h0:1 <=i
  ·simp only [h0,decide_true,y4]
   walk_at "ev"
  ·simp only [h0,decide_false,y4]
   walk_at "ev"
 |_=> rfl
def agb(m:Int)(d:ag):Bool:=isN (.da d)||qu m d
theorem a3y:aei [.int m,.da d] s=.ok (.bl (agb m d)) s:=by
 rw [ax4];unfold Bis_held
 walk_at "ev"
 unfold agb
 cases isN (.da d) with
 |true=> walk_at "ev";rfl
 |false=>
  walk_at "ev"
  rw [apg];rfl
def zi:List ag -> Bool
 |x::y::r=> ltb x y&&zi (y::r)
 |_=> true
theorem avo{b:ag}(h:(ltP a b).isSome=true):ltP a b=some (ltb a b):=by
 unfold ltb
 match ltP a b,h with
 |some true,_=> rfl
 |some false,_=> rfl
theorem an4: ∀xs:List ag,((xs.zip (xs.drop 1)).map fun p=> ltb p.1 p.2).all id=zi xs
 |[]=> rfl
 |[_]=> rfl
 |x::y::r=> by
  have ih:=an4 (y::r)
  simp only [mK,iH,iY,aP,dJ,id]at ih⊢
  rw [ih];rfl
theorem a1l{p:ag×ag}(h:p∈xs.zip (xs.drop 1)):p.1∈xs/\p.2∈xs:=⟨(f6 h).1,cN (f6 h).2⟩
structure CmpR (xs:List ag):Prop where
 lt: ∀a∈xs,∀b∈xs,(ltP a b).isSome=true
 ok: ∀a∈xs,okD a=true
theorem axc(h:CmpR xs)(hl:xs.length <=1000):abw [.tup xs] s=.ok (.bl (zi xs)) s:=by
 rw [aqv];unfold Bis_rising
 walk_at "ev"
 rw [show qh xs (some 1) none=xs.drop 1 from abf xs 1]
 rw [zh (ρ0:=[none,none]) (by rw [ao,List.length_zip];lia) rfl]
 rw [adn (fun p:ag×ag=> D.tup [p.1,p.2]) (fun _=> true) (fun p=> cj (ltb p.1 p.2)) (xs.zip (xs.drop 1)) (fun p hp=> ⟨[some (.da p.1),some (.da p.2)],rfl,rfl,fun _=> by
  obtain⟨m1,m2⟩:=a1l hp
  walk_at "ev"
  rw [a2m (avo (h.lt _ m1 _ m2)) (h.ok _ m1) (h.ok _ m2)]⟩),dN.mpr (fun _ _=> rfl)]
 walk_at "ev"
 rw [show (xs.zip (xs.drop 1)).map (fun p=> cj (ltb p.1 p.2))=((xs.zip (xs.drop 1)).map fun p=> ltb p.1 p.2).map cj by rw [cu];rfl,ajh,an4]
 rfl
theorem afs: ∀{ds:List ag},ds.all vz=true -> ∃is:List Int,ds=is.map .int
 |[],_=> ⟨[],rfl⟩
 |d::r,h=> by
  (rw [dJ,aG]at h)
  obtain⟨is,rfl⟩:=afs h.2
  cases d with
  |int i=> exact⟨i::is,rfl⟩
  |_=> exact absurd h.1 aq
theorem ah5(h:qu m d=true):vz d=true:=by
 cases d with
 |int i=> rfl
 |_=> exact absurd h aq
theorem awd(is:List Int):CmpR (is.map aD):=⟨fun a ha b hb=> by
  obtain⟨i,_,rfl⟩:=bB.mp ha
  obtain⟨j,_,rfl⟩:=bB.mp hb
  rw [z9];rfl,fun a ha=> by
  obtain⟨i,_,rfl⟩:=bB.mp ha
  rfl⟩
def agk(m:Int):ag -> Bool
 |.tuple ds=> ds.all (qu m)&&zi ds
 |_=> false
theorem a5r(h:Gv d):aed [.int m,.da d] s=.ok (.bl (agk m d)) s:=by
 rw [aw2];unfold Bis_told
 walk_at "ev"
 cases d with
 | tuple ds=>
  obtain⟨hl,hx⟩:=h.t ds rfl
  rw [show kj (.tuple ds) "tuple"=true from rfl]
  walk_at "ev"
  rw [zh (ρ0:=[none,some (.int m)]) (by simp;lia) rfl]
  rw [yq (fun _=> true) (fun x=> D.bl (qu m x)) ds (fun x _=> rfl) (fun x hx _=> by
   walk_at "ev"
   rw [apg];rfl)]
  rw [dN.mpr (fun _ _=> rfl),show ds.map (fun x=> D.bl (qu m x))=(ds.map fun x=> cj (qu m x)).map D.da by rw [cu];rfl]
  walk_at "ev"
  rw [all_map]
  show _=R.ok (D.bl (ds.all (qu m)&&zi ds)) s
  cases hp:ds.all (qu m) with
  |false=> walk_at "ev"
  | true=>
   walk_at "ev"
   obtain⟨is,rfl⟩:=afs (ds:=ds) (by
    rw [aI]at hp⊢
    exact fun x hx=> ah5 (hp x hx))
   have:=axc (s:=s) (awd is) hl
   rw [this];rfl
 |_=> rfl
def abv(a:ag):ag -> Bool
 |.tuple ds=> (decide (1 <=ds.length)&&decide (ds.length <=12))&&j5 (.tuple (a::ds))
 |_=> false
theorem auc(ha:It a)(h:Gv d):acb [.da a,.da d] s=.ok (.bl (abv a d)) s:=by
 rw [ayw];unfold Bis_knot
 walk_at "ev"
 cases d with
 | tuple ds=>
  obtain⟨hl,hx⟩:=h.t ds rfl
  rw [show kj (.tuple ds) "tuple"=true from rfl]
  walk_at "ev"
  show _=R.ok (D.bl ((decide (1 <=ds.length)&&decide (ds.length <=12))&&j5 (.tuple (a::ds)))) s
  by_cases h1:1 <=ds.length
  ·rw [decide_eq_true (show (1:Int) <=(ds.length:Int) by lia),decide_eq_true h1]
   walk_at "ev"
   by_cases h2:ds.length <=12
   ·rw [decide_eq_true (show (ds.length:Int) <=(12:Int) by lia),decide_eq_true h2]
    walk_at "ev"
    rw [zx (by simp;lia)]
    walk_at "ev"
    rw [ae4 (by simp;lia) (fun x hx'=> by
     rcases aw.mp hx' with z|z
     ·subst z;exact ha
     ·exact hx x z)]
    rfl
   ·rw [decide_eq_false (show¬(ds.length:Int) <=(12:Int) by lia),decide_eq_false h2]
    walk_at "ev"
  ·rw [decide_eq_false (show¬(1:Int) <=(ds.length:Int) by lia),decide_eq_false h1]
   walk_at "ev"
 |_=> rfl
inductive Lf (n:Nat):ag -> Prop
 |none:Lf n .none
 |bool (b:Bool):Lf n (.bool b)
 |int {i:Int}:i.natAbs <=1000+n -> Lf n (.int i)
 |str {x:Str}:asc x=true -> x.length <=40*4^n -> Lf n (.str x)
 |tup {ds:List ag}:ds.length <=140+n -> (ds.filter vz).length <=30+n -> (∀x∈ds,Lf n x) -> Lf n (.tuple ds)
 |lst {ds:List ag}:ds.length <=140+n -> (∀x∈ds,Lf n x) -> Lf n (.list ds)
theorem Lf.mono{m:Nat}(h:Lf n d)(hm:n <=m):Lf m d:=by
 induction h with
 |none=> exact .none
 |bool b=> exact .bool b
 |int h=> exact .int (by lia)
 |str h l=> exact .str h (aH l (mL _ (l8 (by decide) hm)))
 |tup hl hw _ ih=> exact .tup (by lia) (by lia) ih
 |lst hl _ ih=> exact .lst (by lia) ih
theorem ak5: ∀{ds:List ag},(∀x∈ds,x.canLay0=true) -> bh ds=true
 |[],_=> rfl
 |x::r,h=> by simp only [bh,h x aB,ak5 fun y hy=> h y (az _ hy),gT]
theorem Lf.lay(h:Lf n d):d.canLay0=true:=by
 induction h with
 |none=> rfl
 |bool b=> rfl
 |int _=> rfl
 | @str x h _=>
  show PyData.strOk x=true
  unfold asc at h
  unfold PyData.strOk
  simp only [aI,aG,decide_eq_true_eq]at h
  (rw [←kG,aI])
  intro c hc
  have:=h c hc
  (exact decide_eq_true (by lia))
 |tup _ _ _ ih=> simp only [gA];exact ak5 ih
 |lst _ _ ih=> simp only [gA];exact ak5 ih
structure Gd (d:ag):Prop where
 lf:Lf 3 d
 dp:d.depth <=60
 bk:d.bulk <=200000
theorem am7{x:ag}: ∀{ds:List ag},x∈ds -> x.bulk+1 <=aO ds
 |d::r,h=> by
  simp only [aO]
  rcases aw.mp h with e|e
  ·subst e;lia
  ·have:=am7 e;lia
theorem Gd.it(h:Gd d):It d:=⟨fun x e=> by
 subst e
 cases h.lf with
 |str a b=> exact⟨a,aH b (by decide)⟩,h.lf.lay,h.dp⟩
theorem Gd.kid{x:ag}(h:Gd (.tuple ds))(hx:x∈ds):Gd x:=by
 refine⟨?_,?_,?_⟩
 ·cases h.lf with
  |tup _ _ a=> exact a x hx
 ·have:=h.dp
  simp only [aJ]at this
  have:=yp hx
  lia
 ·have:=h.bk
  simp only [bt]at this
  have:=am7 hx
  lia
theorem Gd.len(h:Gd (.tuple ds)):ds.length <=143/\(ds.filter vz).length <=33:=by
 cases h.lf with
 |tup a b _=> exact⟨a,b⟩
theorem Gd.gv(h:Gd d):Gv d:=⟨h.it,fun ds e=> by
 subst e
 exact⟨aH h.len.1 (by decide),fun x hx=> (h.kid hx).it⟩⟩
noncomputable def isS(z:Str):ag -> Bool
 |.str x=> decide (x=z)
 |_=> false
noncomputable def isIn(ss:List Str):ag -> Bool
 |.str x=> decide (x∈ss)
 |_=> false
theorem a00(w:ag)(z:Str):aM w (.str z)=isS z w:=by
 cases w with
 |str x=>
  show (x==z)=decide (x=z)
  (rw [aW,beq_iff_eq,decide_eq_true_eq])
 |_=> rfl
theorem aay{w:ag}(z:Str)(h:It w)(hz:okD (.str z)=true:=by decide+kernel):gEq (.da w) (.da (.str z)) s=.ok (.bl (isS z w)) s:=by rw [ac8 h.ok hz,a00]
theorem ash(w:ag)(ss:List Str):((ss.map aF).any fun d=> aM d w)=isIn ss w:=by
 cases w with
 |str x=> exact aht ss
 |_=>
  rw [show∀b:Bool,(b=isIn ss _)=(b=false) from fun b=> rfl,jF]
  intro d hd
  obtain⟨x,_,rfl⟩:=bB.mp hd
  exact aq
theorem a02{w:ag}(ss:List Str)(h:It w)(hs: ∀x∈ss,okD (.str x)=true:=by decide+kernel):gIn (.da w) (.con (ss.map aF)) s=.ok (.bl (isIn ss w)) s:=by
 have key: ∀w,okD w=true -> (if okD w=true/\(ss.map aF).all okD=true then R.ok (D.bl (nb false ((ss.map aF).any fun d=> aM d w))) s else .bad)=.ok (.bl (isIn ss w)) s:=fun w hw=> by
  rw [if_pos ⟨hw,all_strs hs⟩,ash];rfl
 have:=h.ok
 cases w <;> exact key _ this
theorem aqr{w:ag}(ss:List Str){l:List ag}(e:l=ss.map aF)(h:It w)(hs: ∀x∈ss,okD (.str x)=true:=by decide+kernel):gIn (.da w) (.tup l) s=.ok (.bl (isIn ss w)) s:=by
 subst e
 have key: ∀w,okD w=true -> (if okD w=true/\(ss.map aF).all okD=true then R.ok (D.bl (nb false ((ss.map aF).any fun d=> aM d w))) s else .bad)=.ok (.bl (isIn ss w)) s:=fun w hw=> by
  rw [if_pos ⟨hw,all_strs hs⟩,ash];rfl
 have:=h.ok
 cases w <;> exact key _ this
def yj(m:Int):ag -> Bool
 |.tuple [w,a,b]=> if isS "copy" w=true then abv a b else if isS "merge" w=true then abv b a else isIn ["both","loose","drain","either"] w&&j5 (.tuple [a,b])
 |.tuple [w,a,b,x]=> j5 (.tuple [a,b])&&(if isIn ["place","last"] w=true then agb m x else isS "only" w&&agk m x)
 |_=> false
theorem agc{b c:ag}{r:List ag}:qh (a::b::c::r) (some 1) (some 3)=[b,c]:=by
 rw [show (1:Int)=((1:Nat):Int) from rfl,show (3:Int)=((3:Nat):Int) from rfl,ak3];simp
theorem a97{r:List ag}:qh (a::r) (some 1) none=r:=abf _ 1
section
variable{m:Int}{w a b x:ag}{s:S}
theorem a0l(h:Gd (.tuple [w,a,b])):vf [.int m,.tup [w,a,b]] s=.ok (.bl (yj m (.tuple [w,a,b]))) s:=by
 have hw:=(h.kid (x:=w) (by simp))
 have ha:=(h.kid (x:=a) (by simp))
 have hb:=(h.kid (x:=b) (by simp))
 rw [abq];unfold Bis_flat_part
 walk_at "ev"
 rw [show kj (.tuple [w,a,b]) "tuple"=true from rfl]
 walk_at "ev"
 rw [decide_eq_true (show (3:Int) <=((3:Nat):Int) by decide)]
 walk_at "ev"
 rw [decide_eq_true (show ((3:Nat):Int) <=(4:Int) by decide)]
 walk_at "ev"
 rw [yo,decide_eq_false (by decide)]
 walk_at "ev"
 rw [aay "copy" hw.it]
 show _=R.ok (D.bl (if isS "copy" w=true then abv a b else if isS "merge" w=true then abv b a else isIn ["both","loose","drain","either"] w&&j5 (.tuple [a,b]))) s
 cases isS "copy" w with
 |true=>
  walk_at "ev"
  rw [auc ha.it hb.gv];rfl
 | false=>
  walk_at "ev"
  rw [aay "merge" hw.it]
  cases isS "merge" w with
  |true=>
   walk_at "ev"
   rw [auc hb.it ha.gv];rfl
  | false=>
   walk_at "ev"
   rw [a02 ["both","loose","drain","either"] hw.it]
   cases isIn ["both","loose","drain","either"] w with
   |false=> walk_at "ev"
   |true=>
    walk_at "ev"
    rw [a97,ae4 (by simp) (fun y hy=> (h.kid (az _ hy)).it)];rfl
theorem a30(h:Gd (.tuple [w,a,b,x])):vf [.int m,.tup [w,a,b,x]] s=.ok (.bl (yj m (.tuple [w,a,b,x]))) s:=by
 have hw:=(h.kid (x:=w) (by simp))
 have hx:=(h.kid (x:=x) (by simp))
 rw [abq];unfold Bis_flat_part
 walk_at "ev"
 rw [show kj (.tuple [w,a,b,x]) "tuple"=true from rfl]
 walk_at "ev"
 rw [decide_eq_true (show (3:Int) <=((4:Nat):Int) by decide)]
 walk_at "ev"
 rw [decide_eq_true (show ((4:Nat):Int) <=(4:Int) by decide)]
 walk_at "ev"
 rw [yo,decide_eq_true (by decide)]
 walk_at "ev"
 rw [agc,ae4 (by simp) (fun y hy=> (h.kid (by rcases aw.mp hy with z|z <;> simp_all)).it)]
 show _=R.ok (D.bl (j5 (.tuple [a,b])&&(if isIn ["place","last"] w=true then agb m x else isS "only" w&&agk m x))) s
 cases j5 (.tuple [a,b]) with
 |false=> walk_at "ev"
 | true=>
  walk_at "ev"
  rw [a02 ["place","last"] hw.it]
  cases isIn ["place","last"] w with
  |true=>
   walk_at "ev"
   rw [a3y];rfl
  | false=>
   walk_at "ev"
   rw [aay "only" hw.it]
   cases isS "only" w with
   |false=> walk_at "ev"
   |true=>
    walk_at "ev"
    rw [a5r hx.gv];rfl
theorem aup(h:Gd d):vf [.int m,.da d] s=.ok (.bl (yj m d)) s:=by
 cases d with
 | tuple ds=>
  by_cases h3:ds.length=3
  ·obtain⟨w,a,b,rfl⟩: ∃w a b,ds=[w,a,b]:=by
    match ds,h3 with
    |[w,a,b],_=> exact⟨w,a,b,rfl⟩
   exact a0l h
  ·by_cases h4:ds.length=4
   ·obtain⟨w,a,b,x,rfl⟩: ∃w a b x,ds=[w,a,b,x]:=by
     match ds,h4 with
     |[w,a,b,x],_=> exact⟨w,a,b,x,rfl⟩
    exact a30 h
   ·have e:yj m (.tuple ds)=false:=by
     match ds,h3,h4 with
     |[],_,_=> rfl
     |[_],_,_=> rfl
     |[_,_],_,_=> rfl
     |_::_::_::_::_::_,_,_=> rfl
    rw [e,abq];unfold Bis_flat_part
    walk_at "ev"
    rw [show kj (.tuple ds) "tuple"=true from rfl]
    walk_at "ev"
    by_cases h1:3 <=ds.length
    ·rw [decide_eq_true (show (3:Int) <=(ds.length:Int) by lia)]
     walk_at "ev"
     rw [decide_eq_false (show¬(ds.length:Int) <=(4:Int) by lia)]
     walk_at "ev"
    ·rw [decide_eq_false (show¬(3:Int) <=(ds.length:Int) by lia)]
     walk_at "ev"
 |_=> rfl
end
abbrev Fa:=Str×List Nat
noncomputable def pd(p:List Nat):ag:=.tuple (p.map fun i:Nat=> aD (i:Int))
structure Ex {α:Type} (r:R α) (s:S) (f:Fa):Prop where
 ex: ∃(n:Nat) (ρ:En) (s':S),r=.ex n ρ s'/\s'[n]?=some (.xcx "NoNet" [("word",.str f.1),("path",.da (pd f.2))])/\Ext s s'
theorem Ex.bind{α β:Type}{r:R α}{f:Fa}{g:α -> S -> R β}(h:Ex r s f):Ex (r.bind g) s f:=by
 obtain⟨n,ρ,s',rfl,a,b⟩:=h.ex
 exact⟨n,ρ,s',rfl,a,b⟩
theorem Ex.at{α:Type}{r:R α}{f:Fa}(h:Ex r s f):Ex (r.at ρ) s f:=by
 obtain⟨n,ρ',s',rfl,a,b⟩:=h.ex
 exact⟨n,ρ,s',rfl,a,b⟩
abbrev isC(C:Str):Prop:=(xb::xcs).contains C=true
theorem ba3{fs:List (Str×D)}{t:D}(h:s[n]?=some (.exc C fs))(hc:isC C):ya [.ref n,t] s=.ok .non s:=by
 have e:af2 xb xcs [.ref n,t] s=.ok .non s:=by
  show (match s[n]? with|some (O.exc C fs)=> (if (xb::xcs).contains C=true then R.ok D.non s else .bad)|_=>.bad)=_
  rw [h]
  exact if_pos hc
 show ((R.bind (af2 xb xcs [.ref n,t] s) fun _ s1=> R.ok (Fl.nx [some (.ref n),some t]) s1).bind _)=_
 rw [e]
 rfl
theorem ap6{f:Str}{fs:List (Str×D)}{x:D}{fv:FE}(hv:fv ρ s=.ok x s)(ho:fo ρ s=.ok (.ref n) s)(h:s[n]?=some (.exc C fs))(hc:isC C)(hf:xfl.contains f=true)(hl:fs.length < 1000):
  ai3 xb xcs xfl f fo fv ρ s=.ok (.nx ρ) (s.set n (.exc C (putN f x fs))):=by
 unfold ai3
 rw [hv,R.bind_ok,ho,R.bind_ok]
 show (match s[n]? with|some (O.exc C fs)=> (if ((xb::xcs).contains C=true/\xfl.contains f=true)/\fs.length < 1000 then R.ok (Fl.nx ρ) (s.set n (.exc C (putN f x fs))) else .bad)|_=>.bad)=_
 rw [h]
 exact if_pos ⟨⟨hc,hf⟩,hl⟩
theorem aub{a b:FS}{ρ':En}(h:a ρ s=.ok (.nx ρ') s1):jf a b ρ s=b ρ' s1:=by
 unfold jf;rw [h];rfl
theorem a5z{fs:List (Str×D)}{t:D}{r:En}(h:s[n]?=some (.exc C fs))(hc:isC C):xa (jd 2 ya (ja (jb 0) (ja (fC t) jc))) (some (.ref n)::r) s=.ok (.nx (some (.ref n)::r)) s:=by
 show (R.bind ((ya [.ref n,t] s).at _) fun _ s1=> R.ok (Fl.nx (some (.ref n)::r)) s1)=_
 rw [ba3 h hc];rfl
theorem a0h{d e:D}:v7 [.ref s.length,d,e] (s++ [.exc "NoNet" []])=.ok .non (s++ [.exc "NoNet" [("word",d),("path",e)]]):=by
 have hp:putN "path" e (putN "word" d [])=[(("word":Str),d),(("path":Str),e)]:=by
  show (if ("word":Str)="path" then [(("word":Str),e)] else (("word":Str),d)::putN "path" e [])=_
  rw [if_neg (by decide+kernel)];rfl
 rw [a22];unfold ajm
 rw [aub (a5z adr (by decide+kernel)),aub (ap6 (n:=s.length) (x:=d) rfl rfl adr (by decide+kernel) (by decide+kernel) (by simp)),ajz,ap6 (n:=s.length) (x:=e) rfl rfl adr (by decide+kernel) (by decide+kernel) (by simp [putN]),ajz,hp];rfl
theorem aa1{w:Str}{fp:FE}(h:fp ρ s=.ok (.da (pd p)) s):Ex ((yu "NoNet" 3 v7 (ja (fC (.da (.str w))) (ja fp jc)) ρ s).bind (ai0 xb xcs ρ)) s (w,p):=by
 have e1:ja (fC (.da (.str w))) (ja fp jc) ρ s=.ok [.da (.str w),.da (pd p)] s:=by
  show ((fp ρ s).bind fun x s1=> (R.ok [x] s1:R (List D))).bind (fun xs s2=> R.ok (D.da (.str w)::xs) s2)=_
  rw [h];rfl
 have e2:yu "NoNet" 3 v7 (ja (fC (.da (.str w))) (ja fp jc)) ρ s=.ok (.ref s.length) (s++ [.exc "NoNet" [("word",.da (.str w)),("path",.da (pd p))]]):=by
  unfold yu
  rw [e1,R.bind_ok,if_pos ⟨rfl,by decide⟩,a0h];rfl
 rw [e2,R.bind_ok,auw adr (by decide+kernel),ajz]
 exact⟨_,_,_,rfl,adr,Ext.add _ _⟩
def j3:ag -> Bool
 |.tuple [w,_,q]=> isS "net" w&&j5 q
 |_=> false
noncomputable def xi:ag -> ag
 |.tuple [_,x,_]=> x
 |_=>.none
noncomputable def ali(m:Int):ag -> Bool
 |.tuple [_,.tuple [.int j,.tuple sn,_],.tuple q]=> decide (j=m)&&decide (sn.length=q.length)
 |_=> false
noncomputable def intD:ag -> Int
 |.int i=> i
 |_=> 0
def xu(F:ag -> List Nat -> Option Fa)(m:Int)(d:ag)(p:List Nat):Option Fa:=
 if j3 d=true then (match F (xi d) p with
  |some f=> some f
  |none=> if ali m d=true then none else some ("part",p))
 else if yj m d=true then none else some ("part",p)
def x9(F:ag -> List Nat -> Option Fa)(m:Int)(p:List Nat):List ag -> Nat -> Option Fa
 |[],_=> none
 |d::r,i=> match xu F m d (p++ [i]) with
  |some f=> some f
  |none=> x9 F m p r (i+1)
def aja(F:ag -> List Nat -> Option Fa)(d:ag)(p:List Nat):Option Fa:=match d with
 | .tuple [t,sn,ps]=> if y4 t=true then (if aes sn=true then (match ps with
   |.tuple ds=> x9 F (intD t) p ds 0
   |_=> some ("parts",p)) else some ("seen",p)) else some ("things",p)
 |_=> some ("net",p)
def jy:Nat -> ag -> List Nat -> Option Fa
 |0=> fun _ p=> some ("net",p)
 |k+1=> aja (jy k)
def Out(r:R D)(s:S):Option Fa -> Prop
 |none=> r=.ok .non s
 |some f=> Ex r s f
theorem aib(h:y4 d=true): ∃i:Int,d=.int i/\1 <=i/\i <=3:=by
 cases d with
 |int i=>
  simp only [y4,aG,decide_eq_true_eq]at h
  exact⟨i,rfl,h⟩
 |_=> exact absurd h aq
theorem avt(h:aes d=true): ∃ds,d=.tuple ds:=by
 cases d with
 |tuple ds=> exact⟨ds,rfl⟩
 |_=> exact absurd h aq
theorem aqt(h:j5 d=true): ∃ds,d=.tuple ds:=by
 cases d with
 |tuple ds=> exact⟨ds,rfl⟩
 |_=> exact absurd h aq
theorem vk(h:j3 d=true): ∃w x q,d=.tuple [w,x,.tuple q]:=by
 unfold j3 at h
 split at h
 ·rename_i w x q
  rw [aG]at h
  obtain⟨q,rfl⟩:=aqt h.2
  exact⟨w,x,q,rfl⟩
 ·exact absurd h aq
theorem aag(h:jy k d p=none): ∃(j:Int) (sn ps:List ag),d=.tuple [.int j,.tuple sn,.tuple ps]/\1 <=j/\j <=3:=by
 cases k with
 |zero=> cases h
 | succ k=>
  simp only [jy,aja]at h
  split at h
  ·rename_i t sn ps
   split at h
   ·rename_i ht
    obtain⟨j,rfl,a,b⟩:=aib ht
    split at h
    ·rename_i hs
     obtain⟨ds,rfl⟩:=avt hs
     split at h
     ·exact⟨j,ds,_,rfl,a,b⟩
     ·cases h
    ·cases h
   ·cases h
  ·cases h
theorem anr(h:Gd d):vi [.da d] s=.ok (.bl (j3 d)) s:=by
 rw [agr];unfold Bhas_within_shape
 walk_at "ev"
 cases d with
 | tuple ds=>
  rw [show kj (.tuple ds) "tuple"=true from rfl]
  walk_at "ev"
  rw [aah]
  by_cases h3:ds.length=3
  ·obtain⟨w,x,q,rfl⟩: ∃w a b,ds=[w,a,b]:=by
    match ds,h3 with
    |[w,a,b],_=> exact⟨w,a,b,rfl⟩
   rw [decide_eq_true (show (([w,x,q].length:Nat):Int)=3 from rfl)]
   walk_at "ev"
   rw [aay "net" (h.kid (x:=w) (by simp)).it]
   show _=R.ok (D.bl (isS "net" w&&j5 q)) s
   cases isS "net" w with
   |false=> walk_at "ev"
   |true=>
    walk_at "ev"
    rw [akc (h.kid (x:=q) (by simp)).gv];rfl
  ·rw [decide_eq_false (show¬(ds.length:Int)=3 by lia)]
   have e:j3 (.tuple ds)=false:=by
    match ds,h3 with
    |[],_=> rfl
    |[_],_=> rfl
    |[_,_],_=> rfl
    |_::_::_::_::_,_=> rfl
   rw [e]
   walk_at "ev"
 |_=> rfl
theorem atx{w ps:ag}{sn q:List ag}:y0 [.int m,.tup [w,.tuple [.int j,.tuple sn,ps],.tuple q]] s=.ok (.bl (ali m (.tuple [w,.tuple [.int j,.tuple sn,ps],.tuple q]))) s:=by
 rw [ann];unfold Bfits_within
 walk_at "ev"
 rw [show∀ρ s,aw4 (.t3 (.nm 2) (.nm 3) (.nm 4)) [some (.int m),some ρ,none,none,none] (.da (.tuple [.int j,.tuple sn,ps])) s=.ok (.nx [some (.int m),some ρ,some (.int j),some (.da (.tuple sn)),some (.da ps)]) s from fun _ _=> rfl]
 walk_at "ev"
 rw [za]
 show _=R.ok (D.bl (decide (j=m)&&decide (sn.length=q.length))) s
 cases decide (j=m) with
 |false=> walk_at "ev"
 |true=>
  walk_at "ev"
  rw [za]
  walk_at "ev"
  have e:((sn.length:Int)=(q.length:Int))=(sn.length=q.length):=propext (by lia)
  congr 3
structure NetOk (k:Nat) (F:FF):Prop where
 ok: ∀(d:ag) (p:List Nat) (s:S),Gd d -> k+p.length=4 -> Out (F [.da d,.da (pd p)] s) s (jy k d p)
structure PartOk (k:Nat) (F:FF):Prop where
 ok: ∀(m:Int) (d:ag) (p:List Nat) (s:S),Gd d -> k+p.length=4 -> Out (F [.int m,.da d,.da (pd p)] s) s (xu (jy k) m d p)
theorem am2:Out (((jp (jv (j2 (jb 3))) (aa6 xb xcs (yu "NoNet" 3 v7 (ja (fC (.da (.str "part"))) (ja (jb 2) jc)))) jl) [some (.int m),some (.da d),some (.da (pd p)),some (.bl b)] s).bind jn) s (if b=true then none else some ("part",p)):=by
 cases b with
 |true=>
  show _=_
  walk_at "ev"
 |false=>
  show Ex _ _ _
  walk_at "ev"
  exact Ex.bind (aa1 rfl)
theorem axd{F G:FF}(hF:NetOk k F):PartOk k (fun as s=> (zg F G (as.map some++ [none]) s).bind jn):=by
 refine⟨fun m d p s gd hk=> ?_⟩
 simp only [aP,dQ,cK,cV]
 unfold zg
 unfold xu
 walk_at "ev"
 rw [anr gd]
 cases hw:j3 d with
 |false=>
  walk_at "ev"
  rw [aup gd]
  rw [R.at_ok,R.bind_ok']
  exact am2 (b:=yj m d)
 | true=>
  obtain⟨w,x,q,rfl⟩:=vk hw
  rw [show xi (.tuple [w,x,.tuple q])=x from rfl]
  have h:=hF.ok x p s (gd.kid (by simp)) hk
  cases hf:jy k x p with
  |some f=>
   rw [hf]at h
   walk_at "ev"
   show Ex _ _ _
   repeat (first|exact h|apply Ex.bind|apply Ex.at)
  |none=>
   rw [hf]at h
   have h:F [.da x,.da (pd p)] s=.ok .non s:=h
   obtain⟨j,sn,ps,rfl,_⟩:=aag hf
   walk_at "ev"
   rw [h]
   walk_at "ev"
   rw [atx]
   rw [R.at_ok,R.bind_ok']
   exact am2 (b:=ali m _)
theorem ajw{i:Nat}(h:p.length <=1000):jo false (.da (pd p)) (.tup [.int (i:Int)]) s=.ok (.da (pd (p++ [i]))) s:=by
 unfold pd
 rw [show (D.da (.tuple (p.map fun i:Nat=> aD (i:Int))))=D.tup (p.map fun i:Nat=> aD (i:Int)) from rfl,zx (by simp;lia),lj]
 rfl
theorem at0:jr [.da (pd p)] s=.ok (.int p.length) s:=by
 unfold pd
 rw [show (D.da (.tuple (p.map fun i:Nat=> aD (i:Int))))=D.tup (p.map fun i:Nat=> aD (i:Int)) from rfl,a17,ao]
theorem a0m{k:Int}:ang k [.tup xs] s=.ok (enD k xs,none) s:=(rfl)
def aqp(r:R Fl)(s:S):Option Fa -> Prop
 |none=> ∃ρ,r=.ok (.nx ρ) s
 |some f=> Ex r s f
theorem aqp.body{r:R Fl}{o:Option Fa}(h:aqp r s o):Out (r.bind jn) s o:=by
 cases o with
 |none=>
  obtain⟨ρ,rfl⟩:=h
  rfl
 |some f=> exact Ex.bind h
def cnB(G:FF):FS:=xa (jd 3 G (ja (jb 2) (ja (jb 6) (ja (fOp (jo false) (jb 1) (jj (ja (jb 5) jc))) jc))))
theorem anq{k:Nat}{G:FF}{m:Int}{p:List Nat}{a sn ps:D}{all:List D}{s:S}(hG:PartOk k G)(hk:k+1+p.length=4): ∀(ds:List ag) (i:Nat) (u v:Option D),(∀x∈ds,Gd x) ->
  aqp (v6 (.t2 (.nm 5) (.nm 6)) (cnB G) (all,none) (enD (i:Int) ds) [some a,some (.da (pd p)),some (.int m),some sn,some ps,u,v] s) s (x9 (jy k) m p ds i)
 |[],i,u,v,_=> ⟨_,rfl⟩
 | d::r,i,u,v,hd=> by
  rw [show enD (i:Int) (d::r)=.tup [.int i,d]::enD ((i:Int)+1) r from rfl,show ((i:Int)+1)=((i+1:Nat):Int) by lia]
  rw [acx (ρ1:=[some a,some (.da (pd p)),some (.int m),some sn,some ps,some (.int i),some (.da d)]) rfl]
  have h:=hG.ok m d (p++ [i]) s (hd d aB) (by rw [bv];simp;lia)
  have ih:=fun u v=> anq hG hk (m:=m) (a:=a) (sn:=sn) (ps:=ps) (all:=all) (s:=s) r (i+1) u v fun x hx=> hd x (az _ hx)
  show aqp _ _ (match xu (jy k) m d (p++ [i]) with|some f=> some f|none=> x9 (jy k) m p r (i+1))
  unfold cnB
  walk_at "ev"
  rw [ajw (by lia)]
  walk_at "ev"
  cases hf:xu (jy k) m d (p++ [i]) with
  |some f=>
   rw [hf]at h
   show Ex _ _ _
   repeat (first|exact h|apply Ex.bind|apply Ex.at)
  |none=>
   rw [hf]at h
   rw [show G [.int m,.da d,.da (pd (p++ [i]))] s=.ok .non s from h]
   walk_at "ev"
   exact ih _ _
theorem a6i{A B u v w x y:Option D}{b m e:ag}:aw4 (.t3 (.nm 2) (.nm 3) (.nm 4)) [A,B,u,v,w,x,y] (.tup [b,m,e]) s=.ok (.nx [A,B,some (.da b),some (.da m),some (.da e),x,y]) s:=rfl
theorem aeu(h:ds.length=3): ∃a b c,ds=[a,b,c]:=by
 match ds,h with
 |[a,b,c],_=> exact⟨a,b,c,rfl⟩
theorem al4{F:ag -> List Nat -> Option Fa}(h:ds.length≠3):aja F (.tuple ds) p=some (("net":Str),p):=by
 match ds,h with
 |[],_=> rfl
 |[_],_=> rfl
 |[_,_],_=> rfl
 |[_,_,_],h=> exact absurd rfl h
 |_::_::_::_::_,_=> rfl
abbrev cnR(F G:FF):FF:=fun as s=> (y6 F G (as.map some++ [none,none,none,none,none]) s).bind jn
theorem apy{F G:FF}(h: ∀a b c,d≠ .tuple [a,b,c]):Ex (cnR F G [.da d,.da (pd p)] s) s ("net",p):=by
 unfold cnR
 simp only [aP,dQ,cK,cV]
 unfold y6
 walk_at "ev"
 cases hd:kj d "tuple" with
 |false=>
  walk_at "ev"
  exact Ex.bind (Ex.bind (aa1 rfl))
 | true=>
  cases d with
  | tuple ds=>
   walk_at "ev"
   rw [aah,decide_eq_false (show¬(ds.length:Int)=3 from fun z=> by
    obtain⟨a,b,c,rfl⟩:=aeu (ds:=ds) (by lia)
    exact h a b c rfl)]
   walk_at "ev"
   exact Ex.bind (Ex.bind (aa1 rfl))
  |_=> cases hd
theorem ayx{F G:FF}:NetOk 0 (cnR F G):=by
 refine⟨fun d p s gd hk=> ?_⟩
 show Ex _ _ ("net",p)
 by_cases h: ∃a b c,d=.tuple [a,b,c]
 ·obtain⟨a,b,c,rfl⟩:=h
  unfold cnR
  simp only [aP,dQ,cK,cV]
  unfold y6
  walk_at "ev"
  rw [show kj (.tuple [a,b,c]) "tuple"=true from rfl]
  walk_at "ev"
  rw [aah,decide_eq_true (show ((3:Nat):Int)=3 from rfl)]
  walk_at "ev"
  rw [at0]
  walk_at "ev"
  rw [decide_eq_true (show (4:Int) <=(p.length:Int) by lia)]
  walk_at "ev"
  exact Ex.bind (Ex.bind (aa1 rfl))
 ·exact apy fun a b c e=> h ⟨a,b,c,e⟩
theorem a2l{F G:FF}(hG:PartOk k G):NetOk (k+1) (cnR F G):=by
 refine⟨fun d p s gd hk=> ?_⟩
 by_cases h: ∃a b c,d=.tuple [a,b,c]
 ·obtain⟨t,sn,ps,rfl⟩:=h
  have g1:=gd.kid (x:=sn) (by simp)
  have g2:=gd.kid (x:=ps) (by simp)
  show Out _ _ (if y4 t=true then (if aes sn=true then (match (generalizing:=false) ps with
   |.tuple ds=> x9 (jy k) (intD t) p ds 0
   |_=> some ("parts",p)) else some ("seen",p)) else some ("things",p))
  unfold cnR
  simp only [aP,dQ,cK,cV]
  unfold y6
  walk_at "ev"
  rw [show kj (.tuple [t,sn,ps]) "tuple"=true from rfl]
  walk_at "ev"
  rw [aah,decide_eq_true (show ((3:Nat):Int)=3 from rfl)]
  walk_at "ev"
  rw [at0]
  walk_at "ev"
  rw [decide_eq_false (show¬(4:Int) <=(p.length:Int) by lia)]
  walk_at "ev"
  rw [a6i]
  walk_at "ev"
  rw [avv]
  cases ht:y4 t with
  |false=>
   walk_at "ev"
   exact Ex.bind (Ex.bind (aa1 rfl))
  | true=>
   obtain⟨j,rfl,_,_⟩:=aib ht
   walk_at "ev"
   rw [a5a g1.gv]
   cases hs:aes sn with
   |false=>
    walk_at "ev"
    exact Ex.bind (Ex.bind (aa1 rfl))
   | true=>
    walk_at "ev"
    cases ps with
    |tuple ds=>
     rw [show kj (.tuple ds) "tuple"=true from rfl]
     walk_at "ev"
     rw [a0m]
     walk_at "ev"
     exact (anq hG (by lia) ds 0 _ _ fun x hx=> g2.kid hx).body
    |_=> exact Ex.bind (Ex.bind (aa1 rfl))
 ·have e:jy (k+1) d p=some (("net":Str),p):=by
   show aja (jy k) d p=_
   cases d with
   |tuple ds=> exact al4 fun z=> h (by obtain⟨a,b,c,rfl⟩:=aeu z;exact⟨a,b,c,rfl⟩)
   |_=> rfl
  rw [e]
  exact apy fun a b c e=> h ⟨a,b,c,e⟩
theorem NetOk.of{F F':FF}(h:NetOk k F')(e: ∀a b s,F [a,b] s=F' [a,b] s):NetOk k F:=⟨fun d p s g hk=> by rw [e];exact h.ok d p s g hk⟩
theorem PartOk.of{F F':FF}(h:PartOk k F')(e: ∀a b c s,F [a,b,c] s=F' [a,b,c] s):PartOk k F:=⟨fun m d p s g hk=> by rw [e];exact h.ok m d p s g hk⟩
theorem a5j{f:Nat}(a b:D)(s:S):kg (f+1) [a,b] s=cnR (kg f) (kl f) [a,b] s:=asb
theorem a9v{f:Nat}(a b c:D)(s:S):kl (f+1) [a,b,c] s=(fun as s=> (zg (kg f) (kl f) (as.map some++ [none]) s).bind jn:FF) [a,b,c] s:=aog
theorem akl: ∀k f:Nat,2*k+1 <=f -> NetOk k (kg f)
 |0,f+1,_=> (ayx (F:=kg f) (G:=kl f)).of a5j
 |k+1,f+2,h=> (a2l (F:=kg (f+1)) (G:=kl (f+1)) ((axd (G:=kl f) (akl k f (by lia))).of a9v)).of a5j
theorem a0d(h:Gd d):Out (kg 10 [.da d,.tup []] s) s (jy 4 d []):=(akl 4 10 (by decide)).ok d [] s h rfl
def awa(F:ag -> Nat):ag -> Nat
 |.tuple [_,_,.tuple ps]=> ps.length+(ps.map fun d=> if j3 d=true then F (xi d) else 0).sum
 |_=> 0
def kt:Nat -> ag -> Nat
 |0=> fun _=> 0
 |k+1=> awa (kt k)
theorem avf(h:yj m d=true): ∃w r,d=.tuple (w::r)/\isS "net" w=false:=by
 have key: ∀w:ag,isS "net" w=true -> isS "copy" w=false/\isS "merge" w=false/\isIn ["both","loose","drain","either"] w=false/\isIn ["place","last"] w=false/\isS "only" w=false:=by
  intro w hw
  cases w with
  |str x=>
   simp only [isS,decide_eq_true_eq]at hw
   subst hw
   decide+kernel
  |_=> exact absurd hw aq
 unfold yj at h
 split at h
 ·rename_i w a b
  refine⟨w,[a,b],rfl,?_⟩
  cases q:isS "net" w with
  |false=> rfl
  |true=>
   obtain⟨a1,a2,a3,a4,a5⟩:=key w q
   simp [a1,a2,a3]at h
 ·rename_i w a b x
  refine⟨w,[a,b,x],rfl,?_⟩
  cases q:isS "net" w with
  |false=> rfl
  |true=>
   obtain⟨a1,a2,a3,a4,a5⟩:=key w q
   simp [a4,a5]at h
 ·exact absurd h aq
theorem ak9{F:ag -> List Nat -> Option Fa}(h:xu F m d p=none): ∃w r,d=.tuple (w::r)/\isS "net" w=j3 d:=by
 unfold xu at h
 cases hw:j3 d with
 |true=>
  obtain⟨w,x,q,rfl⟩:=vk hw
  have:(isS "net" w&&j5 (.tuple q))=true:=hw
  rw [aG]at this
  exact⟨w,_,rfl,this.1⟩
 | false=>
  rw [hw,if_neg aq]at h
  split at h
  ·rename_i hf
   obtain⟨w,r,rfl,e⟩:=avf hf
   exact⟨w,r,rfl,e⟩
  ·cases h
theorem amp{F:ag -> List Nat -> Option Fa}(h:xu F m d p=none)(hw:j3 d=true):F (xi d) p=none:=by
 unfold xu at h
 rw [if_pos hw]at h
 split at h
 ·cases h
 ·assumption
theorem aik{F:ag -> List Nat -> Option Fa}{m:Int}{p:List Nat}: ∀{ds:List ag} {i:Nat},x9 F m p ds i=none -> ∀x∈ds,∃q,xu F m x q=none
 |[],_,_,x,hx=> by cases hx
 | d::r,i,h,x,hx=> by
  simp only [x9]at h
  split at h
  ·cases h
  ·rename_i e
   rcases aw.mp hx with z|z
   ·subst z;exact⟨_,e⟩
   ·exact aik h x z
theorem ah7(h:jy (k+1) d p=none): ∃(j:Int) (sn ps:List ag),d=.tuple [.int j,.tuple sn,.tuple ps]/\ ∀x∈ps,∃q,xu (jy k) j x q=none:=by
 obtain⟨j,sn,ps,rfl,_⟩:=aag h
 refine⟨j,sn,ps,rfl,?_⟩
 simp only [jy,aja]at h
 split at h
 ·split at h
  ·exact aik h
  ·cases h
 ·cases h
def ctB(F:FF):FS:=jp (ji (fOp gEq (fOp gIx (jb 2) (fC (.da (.int 0)))) (fC (.da (.str "net"))))) (ahv 1 (jd 1 F (ja (fOp gIx (jb 2) (fC (.da (.int 1)))) jc))) jl
theorem ao5{F:FF}{C:ag -> Nat}{d:D}{all:List D}{s:S}: ∀(ds:List ag) (n:Nat) (u:Option D),(∀x∈ds,Gd x/\(∃w r,x=.tuple (w::r)/\isS "net" w=j3 x)/\(j3 x=true -> F [.da (xi x)] s=.ok (.int (C (xi x))) s)) ->
  ∃u',v6 (.nm 2) (ctB F) (all,none) (ds.map D.da) [some d,some (.int n),u] s=.ok (.nx [some d,some (.int ((n+(ds.map fun x=> if j3 x=true then C (xi x) else 0).sum:Nat):Int)),u']) s
 |[],n,u,_=> ⟨u,rfl⟩
 | x::r,n,u,h=> by
  obtain⟨g,⟨w,q,rfl,hw⟩,hF⟩:=h x aB
  have ih:=fun n u=> ao5 (F:=F) (C:=C) (d:=d) (all:=all) (s:=s) r n u fun y hy=> h y (az _ hy)
  rw [aP,acx (ρ1:=[some d,some (.int n),some (.da (.tuple (w::q)))]) rfl]
  have gw:=g.kid (x:=w) aB
  (rw [aP,d8])
  unfold ctB
  walk_at "ev"
  rw [aay "net" gw.it,hw]
  cases hb:j3 (.tuple (w::q)) with
  |false=>
   walk_at "ev"
   obtain⟨u',e⟩:=ih n (some (.da (.tuple (w::q))))
   exact⟨u',e⟩
  |true=>
   obtain⟨w',y,z,e0⟩:=vk hb
   cases e0
   have hF:=hF hb
   rw [show xi (.tuple [w,y,.tuple z])=y from rfl]at hF⊢
   walk_at "ev"
   rw [a50 (x:=(n:Int)) rfl]
   walk_at "ev"
   rw [hF]
   walk_at "ev"
   obtain⟨u',e⟩:=ih (n+C y) (some (.da (.tuple [w,y,.tuple z])))
   refine⟨u',?_⟩
   rw [show ((n:Int)+(C y:Int))=((n+C y:Nat):Int) by lia]
   rw [gQ]at e
   exact e
theorem v_count: ∀(k f:Nat) (d:ag) (p:List Nat) (s:S),k <=f -> Gd d -> jy k d p=none -> km f [.da d] s=.ok (.int (kt k d)) s
 |0,_,d,p,_,_,_,h=> by cases h
 | k+1,f+1,d,p,s,hf,gd,h=> by
  obtain⟨j,sn,ps,rfl,hp⟩:=ah7 h
  rw [alh];unfold zj
  walk_at "ev"
  have gp:=gd.kid (x:=.tuple ps) (by simp)
  obtain⟨u',e⟩:=ao5 (F:=km f) (C:=kt k) (d:=.tup [.int j,.tuple sn,.tuple ps]) (all:=ps.map D.da) (s:=s) ps ps.length none fun x hx=> by
   obtain⟨q,e⟩:=hp x hx
   have gx:=gp.kid hx
   refine⟨gx,ak9 e,fun hw=> ?_⟩
   obtain⟨w,y,z,rfl⟩:=vk hw
   exact v_count k f y q s (by lia) (gx.kid (by simp)) (amp e hw)
  rw [show (jp (ji (fOp gEq (fOp gIx (jb 2) (fC (.da (.int 0)))) (fC (.da (.str "net"))))) (ahv 1 (jd 1 (km f) (ja (fOp gIx (jb 2) (fC (.da (.int 1)))) jc))) jl)=ctB (km f) from rfl,e]
  walk_at "ev"
  rfl
def ajf(d:ag):Bool:=(jy 4 d []).isNone&&decide (kt 4 d <=120)
def axe(r:R D)(s:S)(d:ag):Prop:=match jy 4 d []with
 |some f=> Ex r s f
 |none=> if kt 4 d <=120 then r=.ok (.bl true) s else Ex r s ("many",[])
theorem a0x(h:Gd d):axe (qy [.da d] s) s d:=by
 have hc:=a0d (s:=s) h
 rw [aqx];unfold Bright_net
 unfold axe
 walk_at "ev"
 cases hf:jy 4 d []with
 |some f=>
  rw [hf]at hc
  show Ex _ _ _
  repeat (first|exact hc|apply Ex.bind|apply Ex.at)
 | none=>
  rw [hf]at hc
  rw [show kg 10 [.da d,.tup []] s=.ok .non s from hc]
  walk_at "ev"
  rw [v_count 4 8 d [] s (by decide) h hf]
  walk_at "ev"
  show if kt 4 d <=120 then _ else _
  by_cases h1:kt 4 d <=120
  ·rw [if_pos h1,decide_eq_false (show¬(120:Int) < (kt 4 d:Int) by lia)]
   walk_at "ev"
  ·rw [if_neg h1,decide_eq_true (show (120:Int) < (kt 4 d:Int) by lia)]
   walk_at "ev"
   exact Ex.bind (Ex.bind (aa1 rfl))
theorem a4a(h:qy [.da d] s=.ok (.bl true) s):ac2 [.da d] s=.ok (.bl true) s:=by
 rw [ap1];unfold Bis_net
 have e:jh (jd 1 qy (ja (jb 0) jc)) [some (.da d)] s=.ok (.rt (.bl true)) s:=by
  walk_at "ev"
  rw [h]
  walk_at "ev"
 rw [a6h e];rfl
theorem atk{f:Fa}(h:Ex (qy [.da d] s) s f): ∃s',ac2 [.da d] s=.ok (.bl false) s'/\Ext s s':=by
 rw [ap1];unfold Bis_net
 have e:Ex (jh (jd 1 qy (ja (jb 0) jc)) [some (.da d)] s) s f:=by
  walk_at "ev"
  repeat (first|exact h|apply Ex.bind|apply Ex.at)
 obtain⟨n,ρ,s',e,a,b⟩:=e.ex
 refine⟨s',?_,b⟩
 rw [a57 e,ayp a (by decide+kernel) (by decide+kernel)]
 rfl
theorem a6y(h:Gd d): ∃s',ac2 [.da d] s=.ok (.bl (ajf d)) s'/\Ext s s':=by
 have hr:=a0x (s:=s) h
 unfold axe at hr
 unfold ajf
 cases hf:jy 4 d []with
 |some f=>
  rw [hf]at hr
  exact atk hr
 | none=>
  rw [hf]at hr
  have hr:if kt 4 d <=120 then qy [.da d] s=.ok (.bl true) s else Ex (qy [.da d] s) s ("many",[]):=hr
  by_cases h1:kt 4 d <=120
  ·rw [if_pos h1]at hr
   rw [decide_eq_true h1]
   exact⟨s,a4a hr,Ext.refl _⟩
  ·rw [if_neg h1]at hr
   rw [decide_eq_false h1]
   exact atk hr
def ag7(m:Int)(d:ag):Bool:=if j3 d=true then ajf (xi d)&&ali m d else yj m d
theorem a37(h:Gd d): ∃s',aew [.int m,.da d] s=.ok (.bl (ag7 m d)) s'/\Ext s s':=by
 rw [avj];unfold Bis_part
 unfold ag7
 walk_at "ev"
 rw [anr h]
 cases hw:j3 d with
 |false=>
  walk_at "ev"
  rw [aup h]
  exact⟨s,rfl,Ext.refl _⟩
 | true=>
  obtain⟨w,x,q,rfl⟩:=vk hw
  rw [show xi (.tuple [w,x,.tuple q])=x from rfl]
  obtain⟨s',e,ex⟩:=a6y (s:=s) (h.kid (x:=x) (by simp))
  refine⟨s',?_,ex⟩
  walk_at "ev"
  rw [e]
  cases hn:ajf x with
  |false=> walk_at "ev"
  |true=>
   unfold ajf at hn
   rw [aG,Option.isNone_iff_eq_none]at hn
   obtain⟨j,sn,ps,rfl,_⟩:=aag hn.1
   walk_at "ev"
   rw [atx]
   walk_at "ev"
theorem aqd(h:okD (.list xs)=true):gEq (.lst xs) (.lst []) s=.ok (.bl xs.isEmpty) s:=by rw [ac8 h rfl,ak2]
theorem aq2(h:okD (.list xs)=true):gNe (.lst xs) (.lst []) s=.ok (.bl (!xs.isEmpty)) s:=by rw [acj h rfl,ak2]
theorem ae8{α:Type}(p:α -> Bool)(xs:List α):(xs.filter fun x=> !p x).isEmpty=xs.all p:=by
 induction xs with
 |nil=> rfl
 |cons x r ih=>
  cases h:p x with
  |true=> rw [eT (by simp [h]),ih,dJ,h,jB]
  |false=> rw [eU (by simp [h]),dJ,h];rfl
theorem ao6{α β:Type}(f:α -> β)(l:List α):(l.map f).isEmpty=l.isEmpty:=by cases l <;> rfl
theorem aue(h: ∀x,d=.str x -> asc x=true/\x.length <=100000):xz [.da d] s=.ok (.bl (qg d)) s:=by
 rw [alg];unfold B_law_is_port
 walk_at "ev"
 cases d with
 | str x=>
  obtain⟨ha,hl⟩:=h x rfl
  rw [show kj (.str x) "str"=true from rfl]
  walk_at "ev"
  rw [len_str (by lia)]
  walk_at "ev"
  show _=R.ok (D.bl (agq x)) s
  unfold agq
  by_cases h1:1 <=x.length
  ·rw [decide_eq_true (show (0:Int) < (x.length:Int) by lia),decide_eq_true h1]
   walk_at "ev"
   by_cases h2:x.length <=8
   ·rw [decide_eq_true (show (x.length:Int) < 9 by lia),decide_eq_true h2]
    walk_at "ev"
    rw [a01]
    walk_at "ev"
    rw [aou (age ha)]
    walk_at "ev"
    rw [ala,zh (ρ0:=[none,some (.str "abcdefghijklmnopqrstuvwxyz")]) (by rw [ao,aK];show x.length <=_;lia) rfl]
    rw [adn (fun c:Nat=> D.str ⟨#[c]⟩) (fun c=> !aj4 c) (fun c=> aF ⟨#[c]⟩) x.cps.toList (fun c hc=> ⟨[some (.str ⟨#[c]⟩),some (.str "abcdefghijklmnopqrstuvwxyz")],rfl,by
     walk_at "ev"
     rw [show∀s:S,acg (.str ⟨#[c]⟩) (.str (bg "abcdefghijklmnopqrstuvwxyz")) s=.ok (.bl (!am4 (bg "abcdefghijklmnopqrstuvwxyz") ⟨#[c]⟩)) s from fun s=> rfl,amr (age ha) c hc];rfl,fun _=> by
     walk_at "ev"⟩)]
    walk_at "ev"
    rw [aqd (agl (by
     intro y hy
     obtain⟨c,hc,rfl⟩:=bB.mp hy
     have hc':=(bU.mp hc).1
     unfold asc at ha
     rw [aI]at ha
     have l:=Lf.str (n:=0) (x:=⟨#[c]⟩) (by
      show ([c].all fun c=> decide (9 <=c)&&decide (c < 127))=true
      rw [dJ,ha c hc'];rfl) (by show 1 <=_;decide)
     exact Gd.it ⟨l.mono (by decide),by simp [aJ],by simp only [bt];show 1 <=200000;decide⟩)),ao6,ae8]
    rfl
   ·rw [decide_eq_false (show¬(x.length:Int) < 9 by lia),decide_eq_false h2]
    walk_at "ev"
  ·rw [decide_eq_false (show¬(0:Int) < (x.length:Int) by lia),decide_eq_false h1]
   walk_at "ev"
 |_=> rfl
theorem ap8:vq [.da d] s=.ok (.bl (vz d)) s:=by
 rw [ajc];unfold B_law_is_whole
 walk_at "ev"
 cases d <;> simp only [kj] <;> rfl
theorem aak(hl:ds.length <=1000)(hx: ∀x∈ds,It x):j4 [.tup ds] s=.ok (.bl (j5 (.tuple ds))) s:=by
 rw [ais];unfold B_law_are_ports
 walk_at "ev"
 rw [show kj (.tuple ds) "tuple"=true from rfl]
 walk_at "ev"
 rw [zh (ρ0:=[none]) (by rw [ao];lia) rfl]
 rw [yq (fun x=> !qg x) (fun x=> D.da x) ds (fun x hm=> by
  walk_at "ev"
  rw [aue (hx x hm).s];rfl) (fun x hm _=> by
  walk_at "ev")]
 walk_at "ev"
 rw [aq2 (agl fun x hm=> hx x (bU.mp hm).1),ae8]
 show _=R.ok (D.bl (ds.all qg&&zo ds)) s
 cases hp:ds.all qg with
 |false=> walk_at "ev"
 |true=>
  walk_at "ev"
  obtain⟨ss,rfl,hs⟩:=abb hp
  rw [ao]at hl
  rw [ait (by lia)]
  walk_at "ev"
  rw [za]
  walk_at "ev"
  unfold zo
  rw [aa2]
  have e:(((jk ss).length:Int)=((ss.map aF).length:Int))=((jk ss).length=(ss.map aF).length):=propext (by lia)
  congr 3
theorem ahm(h:Gv d):j4 [.da d] s=.ok (.bl (j5 d)) s:=by
 cases d with
 |tuple ds=> exact aak (h.t ds rfl).1 (h.t ds rfl).2
 |_=> rfl
theorem aom: ∀is:List Int,zi (is.map aD)=decide (is.Pairwise (· < ·))
 |[]=> by simp [zi]
 |[_]=> by simp [zi]
 | i::j::r=> by
  have ih:=aom (j::r)
  show (ltb (.int i) (.int j)&&zi ((j::r).map aD))=_
  have e:ltb (.int i) (.int j)=decide (i < j):=by
   unfold ltb
   rw [z9]
   by_cases z:i < j
   ·rw [decide_eq_true z]
   ·rw [decide_eq_false z]
  rw [ih,e,aW,aG,decide_eq_true_eq,decide_eq_true_eq,decide_eq_true_eq]
  constructor
  ·rintro⟨h1,h2⟩
   refine dt.mpr ⟨fun x hx=> ?_,h2⟩
   rcases aw.mp hx with z|z
   ·subst z;exact h1
   ·have:=(dt.mp h2).1 x z;lia
  ·intro h
   have:=dt.mp h
   exact⟨this.1 j aB,this.2⟩
theorem aku: ∀is:List Int,act ((is.map aD).map D.da)=some is
 |[]=> rfl
 |i::r=> by
  show (match act ((r.map aD).map D.da) with|some xs=> some (i::xs)|none=> none)=_
  rw [aku r]
theorem akm: ∀a b:List Int,c9 (a.map aD) (b.map aD)=decide (a=b)
 |[],[]=> rfl
 |[],_::_=> rfl
 |_::_,[]=> rfl
 |i::a,j::b=> by
  show (aM (.int i) (.int j)&&c9 (a.map aD) (b.map aD))=_
  rw [akm a b,aap,aW,aG,decide_eq_true_eq,decide_eq_true_eq,decide_eq_true_eq,eW]
theorem au7{a b:List Int}:gEq (.lst (a.map aD)) (.lst (b.map aD)) s=.ok (.bl (decide (a=b))) s:=by
 rw [ac8 (ahd a) (ahd b)]
 rw [show aM (.list (a.map aD)) (.list (b.map aD))=c9 (a.map aD) (b.map aD) from rfl,akm]
theorem att{is:List Int}(h:is.length < 64):ad2 false [.tup (is.map aD)] s=.ok (.lst ((xl (jk is)).map aD)) s:=by
 have hu:=(aa7 is).2.2
 show (match act ((is.map aD).map D.da) with|some is=> if is.length < 4000/\(jk is).length < 64 then vw false ((xl (jk is)).map D.int) s else .bad|none=>.bad)=_
 rw [aku]
 show (if is.length < 4000/\(jk is).length < 64 then vw false ((xl (jk is)).map D.int) s else .bad)=_
 rw [if_pos ⟨by lia,by lia⟩]
 rw [show (xl (jk is)).map D.int=((xl (jk is)).map aD).map D.da by rw [cu];rfl]
 unfold vw
 rw [if_neg aq,qw]
theorem ay5{is:List Int}:(is=xl (jk is)) ↔ is.Pairwise (· < ·):=by
 constructor
 ·intro e
  rw [e]
  have h1:=avb (jk is)
  have h2:(xl (jk is)).Nodup:=(akb _).nodup_iff.mpr (aa7 is).1
  exact (h1.and h2).imp fun {a b} h=> by have:=h.1;have:=h.2;lia
 ·intro h
  have nd:is.Nodup:=h.imp fun {a b} h=> by lia
  rw [aic nd]
  have e:=ahs (abp is) (lM _) (by
   unfold ab3
   rw [gI]
   exact h.imp fun {a b} h=> by
    unfold ltb
    rw [z9,decide_eq_false (by lia)])
  have:=aha is
  rw [←e]at this
  have:=congrArg (bM PF.unI) this
  simpa [cu,Function.comp_def,PF.unI] using this.symm
theorem au3(hl:ds.length <=1000)(hx: ∀x∈ds,It x)(hw:(ds.filter vz).length < 64):xm [.int m,.tup ds] s=.ok (.bl (agk m (.tuple ds))) s:=by
 rw [ajg];unfold B_law_are_told
 walk_at "ev"
 rw [show kj (.tuple ds) "tuple"=true from rfl]
 walk_at "ev"
 rw [zh (ρ0:=[none]) (by rw [ao];lia) rfl]
 rw [yq (fun x=> !vz x) (fun x=> D.da x) ds (fun x hm=> by
  walk_at "ev"
  rw [ap8];rfl) (fun x hm _=> by
  walk_at "ev")]
 walk_at "ev"
 rw [aq2 (agl fun x hm=> hx x (bU.mp hm).1),ae8]
 show _=R.ok (D.bl (ds.all (qu m)&&zi ds)) s
 cases hp:ds.all vz with
 | false=>
  have e:ds.all (qu m)=false:=by
   cases q:ds.all (qu m) with
   |false=> rfl
   |true=>
    rw [←hp,aI.mpr]
    intro x hx
    exact ah5 (aI.mp q x hx)
  rw [e]
  walk_at "ev"
 | true=>
  obtain⟨is,rfl⟩:=afs hp
  rw [dN.mpr (fun x hx=> aI.mp hp x hx),ao]at hw
  walk_at "ev"
  rw [att hw]
  walk_at "ev"
  rw [au7,aom,show decide (is=xl (jk is))=decide (is.Pairwise (· < ·)) from by
   rw [aW,decide_eq_true_eq,decide_eq_true_eq];exact ay5]
  cases decide (is.Pairwise (· < ·)) with
  |false=>
   rw [gB]
   walk_at "ev"
  | true=>
   rw [mB]
   walk_at "ev"
   rw [zh (ρ0:=[none,some (.int m)]) (by rw [ao];lia) rfl]
   rw [yq (fun x=> !qu m x) (fun x=> D.da x) (is.map aD) (fun x hm=> by
    obtain⟨i,_,rfl⟩:=bB.mp hm
    walk_at "ev"
    show _=R.ok (!(decide (0 <=i)&&decide (i < m))) s
    cases decide (0 <=i) with
    |false=> walk_at "ev"
    |true=> walk_at "ev") (fun x hm _=> by
    walk_at "ev")]
   walk_at "ev"
   rw [aqd (agl fun x hm=> hx x (bU.mp hm).1),ae8]
   rfl
theorem asq:ahi [.bl b] s=.ok (.int (if b=true then 1 else 0)) s:=rfl
def wc(w:ag):List Bool:=[isS "copy" w,isS "merge" w,isIn ["copy","merge"] w,isIn ["both","loose","drain","either"] w,isIn ["place","last"] w,isS "only" w]
theorem ano(w:ag):wc w=[true,false,true,false,false,false]\/wc w=[false,true,true,false,false,false]\/wc w=[false,false,false,true,false,false]\/wc w=[false,false,false,false,true,false]\/wc w=[false,false,false,false,false,true]\/wc w=[false,false,false,false,false,false]:=by
 cases w with
 | str x=>
  by_cases h1:x="copy"
  ·subst h1;left;decide+kernel
  by_cases h2:x="merge"
  ·subst h2;right;left;decide+kernel
  by_cases h3:x∈(["both","loose","drain","either"]:List Str)
  ·right;right;left
   have: ∀x∈(["both","loose","drain","either"]:List Str),wc (.str x)=[false,false,false,true,false,false]:=by decide+kernel
   exact this x h3
  by_cases h4:x∈(["place","last"]:List Str)
  ·right;right;right;left
   have: ∀x∈(["place","last"]:List Str),wc (.str x)=[false,false,false,false,true,false]:=by decide+kernel
   exact this x h4
  by_cases h5:x="only"
  ·subst h5;right;right;right;right;left;decide+kernel
  right;right;right;right;right
  have h6: ¬x∈(["copy","merge"]:List Str):=by
   intro z
   rcases aw.mp z with z|z
   ·exact h1 z
   ·exact h2 (bd.mp z)
  show [decide (x="copy"),decide (x="merge"),decide (x∈(["copy","merge"]:List Str)),decide (x∈(["both","loose","drain","either"]:List Str)),decide (x∈(["place","last"]:List Str)),decide (x="only")]=_
  rw [decide_eq_false h1,decide_eq_false h2,decide_eq_false h3,decide_eq_false h4,decide_eq_false h5,decide_eq_false h6]
 |_=> right;right;right;right;right;rfl
theorem aii{w:ag}{a c d e f:Bool}(h:wc w=[a,b,c,d,e,f]):isS "copy" w=a/\isS "merge" w=b/\isIn ["copy","merge"] w=c/\isIn ["both","loose","drain","either"] w=d/\isIn ["place","last"] w=e/\isS "only" w=f:=by
 unfold wc at h
 simp only [eW,and_true]at h
 exact h
theorem aqj{es:List ag}(h:ds.Perm es):(ahx ds).Perm (ahx es):=h.filterMap _
theorem aq6:((jk ss).length=ss.length) ↔ ss.Nodup:=⟨awt,fun h=> by rw [aic h]⟩
theorem aoj{es:List ag}(h:ds.Perm es):j5 (.tuple ds)=j5 (.tuple es):=by
 show (ds.all qg&&zo ds)=(es.all qg&&zo es)
 have e:ds.all qg=es.all qg:=by
  (rw [aW,aI,aI])
  exact⟨fun q x hx=> q x (h.mem_iff.mpr hx),fun q x hx=> q x (h.mem_iff.mp hx)⟩
 rw [e]
 cases hp:es.all qg with
 |false=> rfl
 |true=>
  obtain⟨ss,rfl,_⟩:=abb (e.trans hp)
  obtain⟨ts,rfl,_⟩:=abb hp
  have hh:=aqj h
  rw [aa2,aa2]at hh
  unfold zo
  rw [aa2,aa2,ao,ao]
  congr 1
  rw [aW,decide_eq_true_eq,decide_eq_true_eq,aq6,aq6]
  exact hh.nodup_iff
theorem apj:acg (.int (n:Int)) (.tup [.int 3,.int 4]) s=.ok (.bl (!(decide (n=3)||decide (n=4)))) s:=by
 show (if okD (.int n)=true/\ [aD 3,aD 4].all okD=true then R.ok (D.bl (nb true ([aD 3,aD 4].any fun d=> aM d (.int n)))) s else .bad)=_
 rw [if_pos ⟨rfl,rfl⟩]
 simp only [i8,List.any_nil,aap,mo]
 have e3:decide ((3:Int)=(n:Int))=decide (n=3):=by rw [aW,decide_eq_true_eq,decide_eq_true_eq];lia
 have e4:decide ((4:Int)=(n:Int))=decide (n=4):=by rw [aW,decide_eq_true_eq,decide_eq_true_eq];lia
 rw [e3,e4];rfl
def kn3(i:FE):FS:=(jf (jp (qz (jv (j2 (fCB ku (ja (jb 3) (ja (fC (.ty "tuple")) jc))))) (jv (ji (v0 gLe gLe (fC (.da (.int 1))) (fCB jr (ja (jb 3) jc)) (fC (.da (.int 12))))))) (jh (fC (.da (.bool false)))) jl)
  (jh (xh (fOp gEq (fCB jr (ja (jb 1) jc)) (fC (.da (.int 3)))) (jd 1 j4 (ja (fOp (jo false) (jb 3) (jj (ja (fOp gIx (jb 1) i) jc))) jc)))))
theorem alj{m t:D}{ps:List ag}{i:FE}(ha:It a)(h:Gv d)(hi: ∀ρ1:En,ρ1=[some m,some (.tup ps),some t,some (.da d)] -> (fOp gIx (jb 1) i) ρ1 s=.ok (.da a) s):
  kn3 i [some m,some (.tup ps),some t,some (.da d)] s=.ok (.rt (.bl (decide (ps.length=3)&&abv a d))) s:=by
 have hi:=hi _ rfl
 unfold kn3
 generalize fOp gIx (jb 1) i=fi at hi⊢
 walk_at "ev"
 cases d with
 | tuple ds=>
  obtain⟨hl,hx⟩:=h.t ds rfl
  rw [show kj (.tuple ds) "tuple"=true from rfl]
  walk_at "ev"
  show _=R.ok (Fl.rt (D.bl (decide (ps.length=3)&&((decide (1 <=ds.length)&&decide (ds.length <=12))&&j5 (.tuple (a::ds)))))) s
  have e3:decide ((ps.length:Int)=3)=decide (ps.length=3):=by rw [aW,decide_eq_true_eq,decide_eq_true_eq];lia
  by_cases h1:1 <=ds.length
  ·rw [decide_eq_true (show (1:Int) <=(ds.length:Int) by lia),decide_eq_true h1]
   walk_at "ev"
   by_cases h2:ds.length <=12
   ·rw [decide_eq_true (show (ds.length:Int) <=(12:Int) by lia),decide_eq_true h2]
    walk_at "ev"
    rw [yo,e3]
    cases decide (ps.length=3) with
    |false=> walk_at "ev"
    | true=>
     walk_at "ev"
     rw [hi]
     walk_at "ev"
     rw [zx (by simp;lia)]
     walk_at "ev"
     rw [aak (by simp;lia) (fun x hx'=> by
      rcases bI.mp hx' with z|z
      ·exact hx x z
      ·rw [bd.mp z];exact ha),aoj (lR (l₁:=ds) (l₂:=[a]))]
     rfl
   ·rw [decide_eq_false (show¬(ds.length:Int) <=(12:Int) by lia),decide_eq_false h2]
    simp only [gB,fy]
    walk_at "ev"
  ·rw [decide_eq_false (show¬(1:Int) <=(ds.length:Int) by lia),decide_eq_false h1]
   simp only [gB,fy]
   walk_at "ev"
 |_=>
  rw [show∀e:ag,abv a _=false from fun e=> rfl,gB]
  ·walk_at "ev";rfl
  ·exact .none
theorem az2{w:ag}(h:kj w "str"=false):wc w=[false,false,false,false,false,false]:=by
 cases w with
 |str x=> cases h
 |_=> rfl
theorem asj{x:ag}:agk m (.tuple [x])=qu m x:=by
 show ([x].all (qu m)&&zi [x])=_
 simp [zi]
theorem av3(h:n=3\/n=4):acg (.int (n:Int)) (.tup [.int 3,.int 4]) s=.ok (.bl false) s:=by
 rw [apj]
 rcases h with rfl|rfl <;> rfl
theorem a38(h:n≠3)(h2:n≠4):acg (.int (n:Int)) (.tup [.int 3,.int 4]) s=.ok (.bl true) s:=by
 rw [apj,decide_eq_false h,decide_eq_false h2];rfl
theorem a68{w:ag}(h:It w):gIn (.da w) (.tup [.str "copy",.str "merge"]) s=.ok (.bl (isIn ["copy","merge"] w)) s:=aqr ["copy","merge"] rfl h
theorem aip{w:ag}(h:It w):gIn (.da w) (.tup [.str "both",.str "loose",.str "drain",.str "either"]) s=.ok (.bl (isIn ["both","loose","drain","either"] w)) s:=aqr ["both","loose","drain","either"] rfl h
theorem aij{w:ag}(h:It w):gIn (.da w) (.tup [.str "place",.str "last"]) s=.ok (.bl (isIn ["place","last"] w)) s:=aqr ["place","last"] rfl h
section
variable{m:Int}{w a b x:ag}{s:S}
theorem axg(h:Gd (.tuple [w,a,b])):qd [.int m,.tup [w,a,b]] s=.ok (.bl (yj m (.tuple [w,a,b]))) s:=by
 have hw:=(h.kid (x:=w) (by simp))
 have ha:=(h.kid (x:=a) (by simp))
 have hb:=(h.kid (x:=b) (by simp))
 rw [aaq];unfold B_law_is_plain
 rw [←kn3.eq_1 (fOp (jo false) (fC (.da (.int 1))) (jb 2))]
 walk_at "ev"
 rw [show kj (.tuple [w,a,b]) "tuple"=true from rfl]
 walk_at "ev"
 rw [av3 (dB rfl)]
 show _=R.ok (D.bl (if isS "copy" w=true then abv a b else if isS "merge" w=true then abv b a else isIn ["both","loose","drain","either"] w&&j5 (.tuple [a,b]))) s
 walk_at "ev"
 cases hs:kj w "str" with
 |false=>
  obtain⟨c1,c2,c3,c4,c5,c6⟩:=aii (az2 hs)
  rw [c1,c2,c4]
  walk_at "ev"
 | true=>
  walk_at "ev"
  rw [aay "merge" hw.it]
  walk_at "ev"
  rw [asq]
  walk_at "ev"
  rw [a68 hw.it]
  rcases ano w with q|q|q|q|q|q <;> obtain⟨c1,c2,c3,c4,c5,c6⟩:=aii q
  ·rw [c3,c2,c1]
   walk_at "ev"
   rw [show∀s:S,gIx (.tup [w,a,b]) (.int (2 - 0)) s=.ok (.da b) s from fun s=> vc (k:=2) rfl]
   walk_at "ev"
   rw [alj (s:=s) (m:=.int m) (ps:=[w,a,b]) (t:=.int 0) ha.it hb.gv (i:=fOp (jo false) (fC (.da (.int 1))) (jb 2)) fun ρ e=> by
    subst e
    walk_at "ev"
    exact vc (k:=1) rfl]
   rw [show decide ([w,a,b].length=3)=true from rfl,jB]
   walk_at "ev"
  ·rw [c3,c2,c1]
   walk_at "ev"
   rw [show∀s:S,gIx (.tup [w,a,b]) (.int (2 - 1)) s=.ok (.da a) s from fun s=> vc (k:=1) rfl]
   walk_at "ev"
   rw [alj (s:=s) (m:=.int m) (ps:=[w,a,b]) (t:=.int 1) hb.it ha.gv (i:=fOp (jo false) (fC (.da (.int 1))) (jb 2)) fun ρ e=> by
    subst e
    walk_at "ev"
    exact vc (k:=2) rfl]
   rw [show decide ([w,a,b].length=3)=true from rfl,jB]
   walk_at "ev"
  all_goals
   rw [c3,c2,c1,c4]
   walk_at "ev"
   rw [agc,aak (by simp) (fun y hy=> (h.kid (az _ hy)).it)]
   cases j5 (.tuple [a,b]) with
   |false=>
    walk_at "ev"
    try rfl
   |true=>
    walk_at "ev"
    rw [aip hw.it,c4]
    walk_at "ev"
    first
    |(rw [yo,decide_eq_true (by decide)];walk_at "ev";done)
    |(rw [aij hw.it,c5];walk_at "ev";first|(rw [yo,decide_eq_false (by decide)];walk_at "ev";done)|(rw [aay "only" hw.it,c6];walk_at "ev";try (rw [yo,decide_eq_false (by decide)];walk_at "ev")))
theorem ays(h:Gd (.tuple [w,a,b,x])):qd [.int m,.tup [w,a,b,x]] s=.ok (.bl (yj m (.tuple [w,a,b,x]))) s:=by
 have hw:=(h.kid (x:=w) (by simp))
 have ha:=(h.kid (x:=a) (by simp))
 have hb:=(h.kid (x:=b) (by simp))
 have hx:=(h.kid (x:=x) (by simp))
 rw [aaq];unfold B_law_is_plain
 rw [←kn3.eq_1 (fOp (jo false) (fC (.da (.int 1))) (jb 2))]
 walk_at "ev"
 rw [show kj (.tuple [w,a,b,x]) "tuple"=true from rfl]
 walk_at "ev"
 rw [av3 (fD rfl)]
 show _=R.ok (D.bl (j5 (.tuple [a,b])&&(if isIn ["place","last"] w=true then agb m x else isS "only" w&&agk m x))) s
 walk_at "ev"
 cases hs:kj w "str" with
 |false=>
  obtain⟨c1,c2,c3,c4,c5,c6⟩:=aii (az2 hs)
  rw [c5,c6]
  simp only [fy,gB,if_neg aq]
  walk_at "ev"
 | true=>
  walk_at "ev"
  rw [aay "merge" hw.it]
  walk_at "ev"
  rw [asq]
  walk_at "ev"
  rw [a68 hw.it]
  rcases ano w with q|q|q|q|q|q <;> obtain⟨c1,c2,c3,c4,c5,c6⟩:=aii q
  ·rw [c3,c2,c5,c6]
   walk_at "ev"
   rw [show∀s:S,gIx (.tup [w,a,b,x]) (.int (2 - 0)) s=.ok (.da b) s from fun s=> vc (k:=2) rfl]
   walk_at "ev"
   rw [alj (s:=s) (m:=.int m) (ps:=[w,a,b,x]) (t:=.int 0) ha.it hb.gv (i:=fOp (jo false) (fC (.da (.int 1))) (jb 2)) fun ρ e=> by
    subst e
    walk_at "ev"
    exact vc (k:=1) rfl]
   rw [show decide ([w,a,b,x].length=3)=false from rfl,fy]
   walk_at "ev"
  ·rw [c3,c2,c5,c6]
   walk_at "ev"
   rw [show∀s:S,gIx (.tup [w,a,b,x]) (.int (2 - 1)) s=.ok (.da a) s from fun s=> vc (k:=1) rfl]
   walk_at "ev"
   rw [alj (s:=s) (m:=.int m) (ps:=[w,a,b,x]) (t:=.int 1) hb.it ha.gv (i:=fOp (jo false) (fC (.da (.int 1))) (jb 2)) fun ρ e=> by
    subst e
    walk_at "ev"
    exact vc (k:=2) rfl]
   rw [show decide ([w,a,b,x].length=3)=false from rfl,fy]
   walk_at "ev"
  ·rw [c3,c2,c5,c6]
   walk_at "ev"
   rw [agc,aak (by simp) (fun y hy=> (h.kid (by rcases aw.mp hy with z|z <;> simp_all)).it)]
   cases j5 (.tuple [a,b]) with
   |false=> walk_at "ev"
   |true=>
    walk_at "ev"
    rw [aip hw.it,c4]
    walk_at "ev"
    rw [yo,decide_eq_false (by decide)]
    walk_at "ev"
  ·rw [c3,c2,c5,c6]
   walk_at "ev"
   rw [agc,aak (by simp) (fun y hy=> (h.kid (by rcases aw.mp hy with z|z <;> simp_all)).it)]
   cases j5 (.tuple [a,b]) with
   |false=> walk_at "ev"
   | true=>
    walk_at "ev"
    rw [aip hw.it,c4]
    walk_at "ev"
    rw [aij hw.it,c5]
    walk_at "ev"
    rw [yo,decide_eq_true (by decide)]
    walk_at "ev"
    unfold agb
    cases isN (.da x) with
    |true=> walk_at "ev";rfl
    |false=>
     walk_at "ev"
     rw [au3 (by simp) (fun y hy=> by rw [bd.mp hy];exact hx.it) (gi (du _ _) (by simp)),asj]
     rfl
  ·rw [c3,c2,c5,c6]
   walk_at "ev"
   rw [agc,aak (by simp) (fun y hy=> (h.kid (by rcases aw.mp hy with z|z <;> simp_all)).it)]
   cases j5 (.tuple [a,b]) with
   |false=> walk_at "ev"
   |true=>
    walk_at "ev"
    rw [aip hw.it,c4]
    walk_at "ev"
    rw [aij hw.it,c5]
    walk_at "ev"
    rw [aay "only" hw.it,c6]
    walk_at "ev"
    rw [yo,decide_eq_true (by decide)]
    walk_at "ev"
    cases x with
    |tuple ds=> rw [au3 (aH hx.len.1 (by decide)) (fun y hy=> (hx.kid hy).it) (gi hx.len.2 (by decide))];rfl
    |_=> rfl
  ·rw [c3,c2,c5,c6]
   walk_at "ev"
   rw [agc,aak (by simp) (fun y hy=> (h.kid (by rcases aw.mp hy with z|z <;> simp_all)).it)]
   cases j5 (.tuple [a,b]) with
   |false=> walk_at "ev"
   |true=>
    walk_at "ev"
    rw [aip hw.it,c4]
    walk_at "ev"
    rw [aij hw.it,c5]
    walk_at "ev"
    rw [aay "only" hw.it,c6]
    walk_at "ev"
theorem apt(h:Gd d):qd [.int m,.da d] s=.ok (.bl (yj m d)) s:=by
 cases d with
 | tuple ds=>
  by_cases h3:ds.length=3
  ·obtain⟨w,a,b,rfl⟩:=aeu h3
   exact axg h
  ·by_cases h4:ds.length=4
   ·obtain⟨w,a,b,x,rfl⟩: ∃w a b x,ds=[w,a,b,x]:=by
     match ds,h4 with
     |[w,a,b,x],_=> exact⟨w,a,b,x,rfl⟩
    exact ays h
   ·have e:yj m (.tuple ds)=false:=by
     match ds,h3,h4 with
     |[],_,_=> rfl
     |[_],_,_=> rfl
     |[_,_],_,_=> rfl
     |_::_::_::_::_::_,_,_=> rfl
    rw [e,aaq];unfold B_law_is_plain
    walk_at "ev"
    rw [show kj (.tuple ds) "tuple"=true from rfl]
    walk_at "ev"
    rw [a38 h3 h4]
    walk_at "ev"
 |_=> rfl
end
def faD:Option Fa -> D
 |none=>.da .none
 |some f=>.tup [.str f.1,pd f.2]
structure LfOk (k:Nat) (F:FF):Prop where
 ok: ∀(d:ag) (p:List Nat) (s:S),Gd d -> k+p.length=4 -> F [.da d,.da (pd p),.int ((p.length:Int)+1)] s=.ok (faD (jy k d p)) s
def a3p(r:R Fl)(s:S)(h:En):Option Fa -> Prop
 |none=> ∃v w,r=.ok (.nx (h++ [v,w])) s
 |some f=> r=.ok (.rt (faD (some f))) s
def alw(r:R Fl)(s:S):Option Fa -> Prop
 |none=> ∃ρ,r=.ok (.nx ρ) s
 |some f=> r=.ok (.rt (faD (some f))) s
def lfC:FT:=(qf (j2 (fCB ku (ja (jb 4) (ja (fC (.ty "tuple")) jc)))) (qf (ji (fOp gEq (fCB jr (ja (jb 4) jc)) (fC (.da (.int 3))))) (qf (ji (fOp gEq (fOp gIx (jb 4) (fC (.da (.int 0)))) (fC (.da (.str "net"))))) (j2 (jd 1 j4 (ja (fOp gIx (jb 4) (fC (.da (.int 2)))) jc))))))
theorem a3z{a b c e g:Option D}(h:Gd d):lfC [a,b,c,e,some (.da d),g] s=.ok (j3 d) s:=by
 unfold lfC
 walk_at "ev"
 cases d with
 | tuple ds=>
  rw [show kj (.tuple ds) "tuple"=true from rfl]
  walk_at "ev"
  rw [yo]
  by_cases h3:ds.length=3
  ·obtain⟨w,x,q,rfl⟩:=aeu h3
   rw [decide_eq_true (show (([w,x,q].length:Nat):Int)=3 from rfl)]
   walk_at "ev"
   rw [aay "net" (h.kid (x:=w) (by simp)).it]
   show _=R.ok (isS "net" w&&j5 q) s
   cases isS "net" w with
   |false=> walk_at "ev"
   |true=>
    walk_at "ev"
    rw [ahm (h.kid (x:=q) (by simp)).gv]
    walk_at "ev"
  ·rw [decide_eq_false (show¬(ds.length:Int)=3 by lia)]
   have e:j3 (.tuple ds)=false:=by
    match ds,h3 with
    |[],_=> rfl
    |[_],_=> rfl
    |[_,_],_=> rfl
    |_::_::_::_::_,_=> rfl
   rw [e]
   walk_at "ev"
 |_=> rfl
def lfP:FE:=(jj (ja (fC (.da (.str "part"))) (ja (fOp (jo false) (jb 1) (jj (ja (jb 3) jc))) jc)))
theorem asw{a c e g:Option D}{i:Nat}(h:p.length <=1000):lfP [a,some (.da (pd p)),c,some (.int i),e,g] s=.ok (faD (some ("part",p++ [i]))) s:=by
 unfold lfP
 walk_at "ev"
 rw [ajw h]
 rfl
def lfB(F:FF):FS:=(jf (jw 4 (fOp gIx (fOp gIx (jb 0) (fC (.da (.int 2)))) (jb 3)))
  (jp lfC (jf (jw 5 (jd 3 F (ja (fOp gIx (jb 4) (fC (.da (.int 1)))) (ja (fOp (jo false) (jb 1) (jj (ja (jb 3) jc))) (ja (fOp (jo false) (jb 2) (fC (.da (.int 1)))) jc)))))
  (jf (jp (ji (fOp adp (jb 5) (fC (.da (.none))))) (jh (jb 5)) jl)
  (jp (ji (fOp gNe (jj (ja (fOp gIx (fOp gIx (jb 4) (fC (.da (.int 1)))) (fC (.da (.int 0)))) (ja (fCB jr (ja (fOp gIx (fOp gIx (jb 4) (fC (.da (.int 1)))) (fC (.da (.int 1)))) jc)) jc))) (jj (ja (fOp gIx (jb 0) (fC (.da (.int 0)))) (ja (fCB jr (ja (fOp gIx (jb 4) (fC (.da (.int 2)))) jc)) jc))))) (jh lfP) jl))) (jp (jv (j2 (jd 2 qd (ja (fOp gIx (jb 0) (fC (.da (.int 0)))) (ja (jb 4) jc))))) (jh lfP) jl)))
theorem a12{a b:Nat}:gNe (.tup [.int i,.int (a:Int)]) (.tup [.int j,.int (b:Int)]) s=.ok (.bl (!(decide (i=j)&&decide (a=b)))) s:=by
 rw [show (D.tup [.int i,.int (a:Int)])=.da (.tuple [.int i,.int (a:Int)]) from rfl,show (D.tup [.int j,.int (b:Int)])=.da (.tuple [.int j,.int (b:Int)]) from rfl,acj rfl rfl]
 rw [show aM (.tuple [.int i,.int (a:Int)]) (.tuple [.int j,.int (b:Int)])=(aM (.int i) (.int j)&&(aM (.int a) (.int b)&&true)) from rfl,aap,aap,mB]
 have e:decide ((a:Int)=(b:Int))=decide (a=b):=by rw [aW,decide_eq_true_eq,decide_eq_true_eq];lia
 rw [e]
theorem a52{F:FF}{sn:ag}{ps:List ag}{i:Nat}{u v:Option D}(hF:LfOk k F)(hk:k+1+p.length=4)(hd:ps[i]?=some d)(gd:Gd d):
  a3p (lfB F [some (.tup [.int j,sn,.tuple ps]),some (.da (pd p)),some (.int ((p.length:Int)+1)),some (.int i),u,v] s) s [some (.tup [.int j,sn,.tuple ps]),some (.da (pd p)),some (.int ((p.length:Int)+1)),some (.int i)] (xu (jy k) j d (p++ [i])):=by
 have e0: ∀s:S,gIx (.tup ps) (.int i) s=.ok (.da d) s:=fun s=> vc hd
 have hp:p.length <=1000:=by lia
 unfold lfB
 walk_at "ev"
 rw [e0]
 walk_at "ev"
 rw [a3z gd]
 unfold xu
 cases hw:j3 d with
 | false=>
  walk_at "ev"
  rw [apt gd]
  cases yj j d with
  |true=>
   walk_at "ev"
   exact⟨_,_,rfl⟩
  |false=>
   walk_at "ev"
   rw [asw hp]
   show _=_
   walk_at "ev"
 | true=>
  obtain⟨w,x,q,rfl⟩:=vk hw
  rw [show xi (.tuple [w,x,.tuple q])=x from rfl]
  have h:=hF.ok x (p++ [i]) s (gd.kid (by simp)) (by simp;lia)
  rw [bv,show (([i].length:Nat))=1 from rfl,show (((p.length+1:Nat):Int)+1)=((p.length:Int)+1+1) by lia]at h
  walk_at "ev"
  rw [ajw hp]
  walk_at "ev"
  rw [h]
  walk_at "ev"
  cases hf:jy k x (p++ [i]) with
  |some f=>
   show _=_
   rw [show (!isN (faD (some f)))=true from rfl]
   walk_at "ev"
  | none=>
   obtain⟨t,sm,qs,rfl,_⟩:=aag hf
   rw [show (!isN (faD none))=false from rfl]
   walk_at "ev"
   rw [a12]
   show a3p _ _ _ (if (decide (t=j)&&decide (sm.length=q.length))=true then none else some ("part",p++ [i]))
   cases decide (t=j)&&decide (sm.length=q.length) with
   |true=>
    walk_at "ev"
    exact⟨_,_,rfl⟩
   |false=>
    walk_at "ev"
    rw [asw hp]
    show _=_
    walk_at "ev"
theorem aqb{k:Nat}{F:FF}{j:Int}{sn:ag}{ps:List ag}{p:List Nat}{all:List D}{s:S}(hF:LfOk k F)(hk:k+1+p.length=4)(gp: ∀x∈ps,Gd x): ∀(ds:List ag) (i:Nat) (u v w:Option D),ps.drop i=ds ->
  alw (v6 (.nm 3) (lfB F) (all,none) (yg (i:Int) ds.length) [some (.tup [.int j,sn,.tuple ps]),some (.da (pd p)),some (.int ((p.length:Int)+1)),u,v,w] s) s (x9 (jy k) j p ds i)
 |[],i,u,v,w,_=> ⟨_,rfl⟩
 | d::r,i,u,v,w,e=> by
  have hi:ps[i]?=some d:=by
   have:(ps.drop i)[0]?=some d:=by rw [e];rfl
   rwa [List.getElem?_drop,Nat.add_zero]at this
  have er:ps.drop (i+1)=r:=by
   have:=congrArg (List.drop 1) e
   rwa [List.drop_drop,mK,iH]at this
  have gd:=gp d (bw hi)
  have h:=a52 (F:=F) (j:=j) (sn:=sn) (u:=v) (v:=w) (s:=s) hF hk hi gd
  have ih:=fun u v w=> aqb (j:=j) (sn:=sn) (all:=all) (s:=s) hF hk gp r (i+1) u v w er
  rw [show yg (i:Int) (d::r).length=.int i::yg ((i+1:Nat):Int) r.length from rfl,acx (ρ1:=[some (.tup [.int j,sn,.tuple ps]),some (.da (pd p)),some (.int ((p.length:Int)+1)),some (.int i),v,w]) rfl]
  show alw _ _ (match xu (jy k) j d (p++ [i]) with|some f=> some f|none=> x9 (jy k) j p r (i+1))
  cases hf:xu (jy k) j d (p++ [i]) with
  |some f=>
   rw [hf]at h
   rw [show lfB F _ s=.ok (.rt (faD (some f))) s from h]
   rfl
  |none=>
   rw [hf]at h
   obtain⟨v',w',h⟩:=h
   rw [h,R.bind_ok',apd]
   exact ih _ _ _
theorem alw.fin{r:R Fl}{o:Option Fa}(h:alw r s o):((r.bind (asd (jh (fC (.da .none))))).bind jn)=.ok (faD o) s:=by
 cases o with
 |none=>
  obtain⟨ρ,rfl⟩:=h
  rfl
 |some f=>
  rw [show r=.ok (.rt (faD (some f))) s from h]
  rfl
abbrev lfR(F:FF):FF:=fun as s=> (B_law_fault F (as.map some++ [none,none,none]) s).bind jn
theorem a5h{F:FF}:B_law_fault F=(jf (jp (qz (jv (j2 (fCB ku (ja (jb 0) (ja (fC (.ty "tuple")) jc))))) (qz (ji (fOp gNe (fCB jr (ja (jb 0) jc)) (fC (.da (.int 3))))) (ji (fOp gGt (jb 2) (fC (.da (.int 4))))))) (jh (jj (ja (fC (.da (.str "net"))) (ja (jb 1) jc)))) jl)
  (jf (jp (qz (jv (j2 (jd 1 vq (ja (fOp gIx (jb 0) (fC (.da (.int 0)))) jc)))) (jv (ji (v0 gLe gLe (fC (.da (.int 1))) (fOp gIx (jb 0) (fC (.da (.int 0)))) (fC (.da (.int 3))))))) (jh (jj (ja (fC (.da (.str "things"))) (ja (jb 1) jc)))) jl)
  (jf (jp (qz (jv (j2 (jd 1 j4 (ja (fOp gIx (jb 0) (fC (.da (.int 1)))) jc)))) (ji (fOp gGt (fCB jr (ja (fOp gIx (jb 0) (fC (.da (.int 1)))) jc)) (fC (.da (.int 6)))))) (jh (jj (ja (fC (.da (.str "seen"))) (ja (jb 1) jc)))) jl)
  (jf (jp (jv (j2 (fCB ku (ja (fOp gIx (jb 0) (fC (.da (.int 2)))) (ja (fC (.ty "tuple")) jc))))) (jh (jj (ja (fC (.da (.str "parts"))) (ja (jb 1) jc)))) jl)
  (jf (zq (ac5 (ja (fCB jr (ja (fOp gIx (jb 0) (fC (.da (.int 2)))) jc)) jc)) (.nm 3) (lfB F)) (jh (fC (.da (.none))))))))):=rfl
theorem a13{F:FF}:LfOk 0 (lfR F):=by
 refine⟨fun d p s gd hk=> ?_⟩
 show _=R.ok (faD (some ("net",p))) s
 unfold lfR
 simp only [aP,dQ,cK,cV]
 rw [a5h]
 walk_at "ev"
 cases hd:kj d "tuple" with
 |false=>
  walk_at "ev"
  rfl
 | true=>
  cases d with
  | tuple ds=>
   walk_at "ev"
   rw [aah]
   cases decide ((ds.length:Int)=3) with
   |false=>
    walk_at "ev"
    rfl
   |true=>
    walk_at "ev"
    rw [decide_eq_true (show (4:Int) < (p.length:Int)+1 by lia)]
    walk_at "ev"
    rfl
  |_=> cases hd
theorem a0n {F:FF} (hF:LfOk k F):LfOk (k+1) (lfR F):=by
 refine⟨fun d p s gd hk=> ?_⟩
 unfold lfR
 simp only [aP,dQ,cK,cV]
 rw [a5h]
 by_cases h: ∃a b c,d=.tuple [a,b,c]
 ·obtain ⟨t,sn,ps,rfl⟩:=h
  have g1:=gd.kid (x:=sn) (by simp)
  have g2:=gd.kid (x:=ps) (by simp)
  show _=R.ok (faD (if y4 t=true then (if aes sn=true then (match (generalizing:=false) ps with
   |.tuple ds=> x9 (jy k) (intD t) p ds 0
   |_=> some ("parts",p)) else some ("seen",p)) else some ("things",p))) s
  walk_at "ev"
  rw [show kj (.tuple [t,sn,ps]) "tuple"=true from rfl]
  walk_at "ev"
  rw [aah,decide_eq_true (show ((3:Nat):Int)=3 from rfl)]
  walk_at "ev"
  rw [decide_eq_false (show¬(4:Int) < (p.length:Int)+1 by lia)]
  walk_at "ev"
  rw [ap8]
  cases t with
  | int j=>
   show _=R.ok (faD (if (decide (1 <=j)&&decide (j <=3))=true then (if aes sn=true then (match (generalizing:=false) ps with
    |.tuple ds=> x9 (jy k) j p ds 0
    |_=> some ("parts",p)) else some ("seen",p)) else some ("things",p))) s
   simp only [vz]
   walk_at "ev"
   by_cases h1:1 <=j
   ·rw [decide_eq_true h1]
    walk_at "ev"
    by_cases h3:j <=3
    ·rw [decide_eq_true h3]
     walk_at "ev"
     rw [ahm g1.gv]
     cases sn with
     | tuple es=>
      show _=R.ok (faD (if ((es.all qg&&zo es)&&decide (es.length <=6))=true then (match (generalizing:=false) ps with
       |.tuple ds=> x9 (jy k) j p ds 0
       |_=> some ("parts",p)) else some ("seen",p))) s
      rw [show j5 (.tuple es)=(es.all qg&&zo es) from rfl]
      cases es.all qg&&zo es with
      |false=>
       walk_at "ev"
       rfl
      | true=>
       walk_at "ev"
       by_cases h6:es.length <=6
       ·rw [decide_eq_true h6,decide_eq_false (show¬(6:Int) < (es.length:Int) by lia)]
        walk_at "ev"
        cases ps with
        |tuple ds=>
         rw [show kj (.tuple ds) "tuple"=true from rfl]
         walk_at "ev"
         rw [ade (by lia) (by have:=g2.len.1;lia)]
         walk_at "ev"
         exact alw.fin (aqb hF (by lia) (fun x hx=> g2.kid hx) ds 0 _ _ _ rfl)
        |_=> rfl
       ·rw [decide_eq_false h6,decide_eq_true (show (6:Int) < (es.length:Int) by lia)]
        walk_at "ev"
        rfl
     |_=> rfl
    ·rw [decide_eq_false h3]
     walk_at "ev"
     rfl
   ·rw [decide_eq_false h1]
    walk_at "ev"
    rfl
  |_=> rfl
 ·have e:jy (k+1) d p=some (("net":Str),p):=by
   show aja (jy k) d p=_
   cases d with
   |tuple ds=> exact al4 fun z=> h (by obtain⟨a,b,c,rfl⟩:=aeu z;exact⟨a,b,c,rfl⟩)
   |_=> rfl
  rw [e]
  walk_at "ev"
  cases hd:kj d "tuple" with
  |false=>
   walk_at "ev"
   rfl
  | true=>
   cases d with
   | tuple ds=>
    walk_at "ev"
    rw [aah,decide_eq_false (show¬(ds.length:Int)=3 from fun z=> by
     obtain⟨a,b,c,rfl⟩:=aeu (ds:=ds) (by lia)
     exact h ⟨a,b,c,rfl⟩)]
    walk_at "ev"
    rfl
   |_=> cases hd
theorem LfOk.of{F F':FF}(h:LfOk k F')(e: ∀a b c s,F [a,b,c] s=F' [a,b,c] s):LfOk k F:=⟨fun d p s g hk=> by rw [e];exact h.ok d p s g hk⟩
theorem at3: ∀k f:Nat,k < f -> LfOk k (qj f)
 |0,f+1,_=> (a13 (F:=qj f)).of fun a b c s=> agu
 |k+1,f+1,h=> (a0n (at3 k f (by lia))).of fun a b c s=> agu
theorem a0a(h:Gd d):qj 8 [.da d,.tup [],.int 1] s=.ok (faD (jy 4 d [])) s:=(at3 4 8 (by decide)).ok d [] s h rfl
theorem al3: ∀ns:List Nat,(∀n∈ns,n <=1000000) -> aen ((ns.map fun n:Nat=> aD (n:Int)).map D.da)=some (ns.map fun n:Nat=> (n:Int))
 |[],_=> rfl
 |n::r,h=> by
  show (match aen ((r.map fun n:Nat=> aD (n:Int)).map D.da) with|some xs=> if 0 <=(n:Int)/\(n:Int) <=1000000 then some ((n:Int)::xs) else none|none=> none)=_
  rw [al3 r fun x hx=> h x (az _ hx)]
  have:=h n aB
  exact if_pos ⟨by lia,by lia⟩
theorem apc: ∀ns:List Nat,(ns.map fun n:Nat=> (n:Int)).sum=(ns.sum:Nat)
 |[]=> rfl
 |n::r=> by rw [aP,d8,d8,apc r];lia
theorem axm{ns:List Nat}(h: ∀n∈ns,n <=1000000)(hl:ns.length <=100000):arb [.lst (ns.map fun n:Nat=> aD (n:Int))] s=.ok (.int (ns.sum:Nat)) s:=by
 show (match aen ((ns.map fun n:Nat=> aD (n:Int)).map D.da) with|some is=> if is.length <=100000 then R.ok (D.int is.sum) s else .bad|none=>.bad)=_
 rw [al3 ns h]
 show (if (ns.map fun n:Nat=> (n:Int)).length <=100000 then R.ok (D.int (ns.map fun n:Nat=> (n:Int)).sum) s else .bad)=_
 rw [if_pos (by rw [ao];exact hl),apc]
theorem sum_filter{p:ag -> Bool}{g:ag -> Nat}: ∀ps:List ag,((ps.filter p).map g).sum=(ps.map fun x=> if p x=true then g x else 0).sum
 |[]=> rfl
 |x::r=> by
  cases h:p x with
  |true=> rw [eU h,aP,aP,d8,d8,sum_filter r,h];rfl
  |false=> rw [eT (by rw [h];exact aq),aP,d8,sum_filter r,h];simp
theorem amz(x:ag)(h:j3 x=true):(xi x).bulk <=x.bulk:=by
 obtain⟨w,y,q,rfl⟩:=vk h
 show y.bulk <=_
 simp only [bt,aO]
 lia
theorem ao3: ∀(k:Nat) (d:ag),kt k d <=d.bulk
 |0,_=> cy _
 | k + 1,d=> by
  show awa (kt k) d <=_
  unfold awa
  split
  ·rename_i a b ps
   have: ∀ps:List ag,ps.length+(ps.map fun d=> if j3 d=true then kt k (xi d) else 0).sum <=aO ps:=by
    intro ps
    induction ps with
    |nil=> simp [aO]
    | cons x r ih=>
     simp only [aQ,aP,d8,aO]
     have:(if j3 x=true then kt k (xi x) else 0) <=x.bulk:=by
      split
      ·rename_i h
       exact aH (ao3 k _) (amz x h)
      ·exact cy _
     lia
   have:=this ps
   simp only [bt,aO]
   lia
  ·exact cy _
theorem api: ∀(k f:Nat) (d:ag) (p:List Nat) (s:S),k <=f -> Gd d -> jy k d p=none -> vm f [.da d] s=.ok (.int (kt k d)) s
 |0,_,d,p,_,_,_,h=> by cases h
 | k+1,f+1,d,p,s,hf,gd,h=> by
  obtain⟨j,sn,ps,rfl,hp⟩:=ah7 h
  have gp:=gd.kid (x:=.tuple ps) (by simp)
  have hl:=gp.len.1
  rw [ao8];unfold B_law_count
  walk_at "ev"
  rw [zh (ρ0:=[none]) (by rw [ao];lia) rfl]
  rw [yq j3 (fun x=> D.int (kt k (xi x))) ps (fun x hx=> by
   obtain⟨q,e⟩:=hp x hx
   obtain⟨w,r,rfl,hw⟩:=ak9 e
   walk_at "ev"
   rw [aay "net" ((gp.kid hx).kid (x:=w) aB).it,hw]
   walk_at "ev") (fun x hx hw=> by
   obtain⟨q,e⟩:=hp x hx
   obtain⟨w,y,z,rfl⟩:=vk hw
   walk_at "ev"
   rw [api k f y q s (by lia) ((gp.kid hx).kid (by simp)) (amp e hw)]
   rfl)]
  walk_at "ev"
  rw [show (ps.filter j3).map (fun x=> D.int (kt k (xi x)))=(((ps.filter j3).map fun x=> kt k (xi x)).map fun n:Nat=> aD (n:Int)).map D.da by simp only [cu];rfl]
  walk_at "ev"
  rw [axm (fun n hn=> by
   obtain⟨x,hx,rfl⟩:=bB.mp hn
   have hx:=bU.mp hx
   have:=ao3 k (xi x)
   have:=amz x hx.2
   have:=(gp.kid hx.1).bk
   lia) (by
   rw [ao]
   exact aH (du _ _) (by lia))]
  walk_at "ev"
  rw [sum_filter]
  show R.ok (D.int ((ps.length:Int)+((ps.map fun x=> if j3 x=true then kt k (xi x) else 0).sum:Nat))) s=R.ok (D.int ((ps.length+(ps.map fun d=> if j3 d=true then kt k (xi d) else 0).sum:Nat):Int)) s
  rw [Int.natCast_add]
theorem a0f{a b:Nat}:gEq (.tup [.int i,.int (a:Int)]) (.tup [.int j,.int (b:Int)]) s=.ok (.bl (decide (i=j)&&decide (a=b))) s:=by
 rw [show (D.tup [.int i,.int (a:Int)])=.da (.tuple [.int i,.int (a:Int)]) from rfl,show (D.tup [.int j,.int (b:Int)])=.da (.tuple [.int j,.int (b:Int)]) from rfl,ac8 rfl rfl]
 rw [show aM (.tuple [.int i,.int (a:Int)]) (.tuple [.int j,.int (b:Int)])=(aM (.int i) (.int j)&&(aM (.int a) (.int b)&&true)) from rfl,aap,aap,mB]
 have e:decide ((a:Int)=(b:Int))=decide (a=b):=by rw [aW,decide_eq_true_eq,decide_eq_true_eq];lia
 rw [e]
def lpC:FT:=(qf (j2 (fCB ku (ja (jb 1) (ja (fC (.ty "tuple")) jc)))) (qf (ji (fOp gEq (fCB jr (ja (jb 1) jc)) (fC (.da (.int 3))))) (qf (ji (fOp gEq (fOp gIx (jb 1) (fC (.da (.int 0)))) (fC (.da (.str "net"))))) (j2 (jd 1 j4 (ja (fOp gIx (jb 1) (fC (.da (.int 2)))) jc))))))
theorem a6c{a:Option D}(h:Gd d):lpC [a,some (.da d)] s=.ok (j3 d) s:=by
 unfold lpC
 walk_at "ev"
 cases d with
 | tuple ds=>
  rw [show kj (.tuple ds) "tuple"=true from rfl]
  walk_at "ev"
  rw [yo]
  by_cases h3:ds.length=3
  ·obtain⟨w,x,q,rfl⟩:=aeu h3
   rw [decide_eq_true (show (([w,x,q].length:Nat):Int)=3 from rfl)]
   walk_at "ev"
   rw [aay "net" (h.kid (x:=w) (by simp)).it]
   show _=R.ok (isS "net" w&&j5 q) s
   cases isS "net" w with
   |false=> walk_at "ev"
   |true=>
    walk_at "ev"
    rw [ahm (h.kid (x:=q) (by simp)).gv]
    walk_at "ev"
  ·rw [decide_eq_false (show¬(ds.length:Int)=3 by lia)]
   have e:j3 (.tuple ds)=false:=by
    match ds,h3 with
    |[],_=> rfl
    |[_],_=> rfl
    |[_,_],_=> rfl
    |_::_::_::_::_,_=> rfl
   rw [e]
   walk_at "ev"
 |_=> rfl
theorem a4e(h:Gd d):zk [.int m,.da d] s=.ok (.bl (ag7 m d)) s:=by
 rw [ale];unfold B_law_is_part
 rw [←lpC.eq_1]
 unfold ag7
 walk_at "ev"
 rw [a6c h]
 cases hw:j3 d with
 |false=>
  walk_at "ev"
  rw [apt h]
  rfl
 | true=>
  obtain⟨w,x,q,rfl⟩:=vk hw
  rw [show xi (.tuple [w,x,.tuple q])=x from rfl]
  have gx:=h.kid (x:=x) (by simp)
  walk_at "ev"
  rw [a0a gx]
  walk_at "ev"
  unfold ajf
  cases hf:jy 4 x []with
  |some f=>
   rw [show (!isN (faD (some f)))=true from rfl]
   walk_at "ev"
   rfl
  | none=>
   obtain⟨t,sm,qs,rfl,_⟩:=aag hf
   rw [show (!isN (faD none))=false from rfl]
   walk_at "ev"
   rw [api 4 8 _ [] s (by decide) gx hf]
   walk_at "ev"
   by_cases h1:kt 4 (.tuple [.int t,.tuple sm,.tuple qs]) <=120
   ·rw [decide_eq_true h1,decide_eq_false (show¬(120:Int) < (kt 4 (.tuple [.int t,.tuple sm,.tuple qs]):Int) by lia)]
    walk_at "ev"
    rw [a0f]
    rfl
   ·rw [decide_eq_false h1,decide_eq_true (show (120:Int) < (kt 4 (.tuple [.int t,.tuple sm,.tuple qs]):Int) by lia)]
    walk_at "ev"
structure Core (d:ag):Prop where
 ls:d.leavesShort 45=true
 sh:d.showable=true
theorem azz(h: ∀x∈ds,Core x):lS 45 ds=true/\ff ds=true:=by
 induction ds with
 |nil=> exact⟨rfl,rfl⟩
 |cons x r ih=>
  obtain⟨a,b⟩:=ih fun y hy=> h y (az _ hy)
  obtain⟨p,q⟩:=h x aB
  exact⟨by simp only [lS,p,a,gT],by simp only [ff,q,b,gT]⟩
theorem atw(h:i.natAbs < 10^31):(toString i).length <=32:=int_text_length_le10 (k:=31) (by decide) h
theorem Lf.core(h:Lf n d)(hn:n <=5):Core d:=by
 induction h with
 |none=> exact⟨rfl,rfl⟩
 |bool b=> exact⟨by cases b <;> rfl,rfl⟩
 | @int i h=>
  have h31:i.natAbs < 10^31:=by
   have e:(10:Nat)^31=10000000000000000000000000000000:=by decide
   lia
  constructor
  ·simp only [gm,decide_eq_true_eq]
   have:=atw h31
   show (bg (toString i)).length <=45
   rw [ofString_length]
   lia
  ·simp only [bW,decide_eq_true_eq]
   by_cases z:i.natAbs=0
   ·rw [z];decide
   ·have h2:i.natAbs < 2^104:=by
     have e:(2:Nat)^104=20282409603651670423947251286016:=by decide
     lia
    have:=(Nat.log2_lt z).mpr h2
    lia
 | @str x h l=>
  unfold asc at h
  simp only [aI,aG,decide_eq_true_eq]at h
  refine⟨?_,rfl⟩
  simp only [gm,aI,decide_eq_true_eq]
  intro c hc
  have:=(h c hc).2
  have e16:(16:Nat)^8=4294967296:=by decide
  lia
 |tup hl _ _ ih=>
  obtain⟨a,b⟩:=azz ih
  exact⟨by simpa only [gm] using a,by simpa only [bW] using b⟩
 |lst hl _ ih=>
  obtain⟨a,b⟩:=azz ih
  exact⟨by simpa only [gm] using a,by simpa only [bW] using b⟩
theorem Gd.okE(h:Gd d):okE d=true:=by
 unfold PF.okE
 (simp only [aG,decide_eq_true_eq])
 refine⟨⟨(h.lf.core (by decide)).sh,aH h.dp (by decide)⟩,?_⟩
 have:=PyData.shown_le_bulk 45 (by decide) d (h.lf.core (by decide)).ls
 have:=h.bk
 rw [kz]
 lia
theorem aq3(h:Gd d):ze [.da d] s=.ok (.str d.shown) s:=by
 show (if PF.okE d=true then R.ok (D.str d.shown) s else .bad)=_
 rw [if_pos h.okE]
theorem ag4:ze [.bl b] s=.ok (.str (cj b).shown) s:=by
 show (if PF.okE (.bool b)=true then R.ok (D.str (cj b).shown) s else .bad)=_
 rw [if_pos (by cases b <;> decide+kernel)]
theorem am6(h:Gd d): ∃s',xc [.int m,.da d] s=.ok (.bl true) s'/\Ext s s':=by
 obtain⟨s',e,ex⟩:=a37 (m:=m) (s:=s) h
 refine⟨s',?_,ex⟩
 rw [aoi];unfold B_law_right
 walk_at "ev"
 rw [aq3 h]
 walk_at "ev"
 rw [e]
 walk_at "ev"
 rw [ag4]
 walk_at "ev"
 rw [a4e h]
 walk_at "ev"
 rw [ag4]
 walk_at "ev"
 rw [a6s,show (!decide ((cj (ag7 m d)).shown=(cj (ag7 m d)).shown))=false by simp]
 walk_at "ev"
 rw [at2 h.it.s]
 walk_at "ev"
 rw [ag4]
 walk_at "ev"
 rw [aue h.it.s]
 walk_at "ev"
 rw [ag4]
 walk_at "ev"
 rw [azx,decide_eq_true rfl]
 walk_at "ev"
 rw [aq3 h]
 walk_at "ev"
 rw [azx,decide_eq_true rfl]
 walk_at "ev"
structure Sm (D B:Nat) (d:ag):Prop where
 lf:Lf 0 d
 dp:d.depth <=D
 bk:d.bulk <=B
theorem Sm.mono{D B D' B':Nat}(h:Sm D B d)(h1:D <=D')(h2:B <=B'):Sm D' B' d:=⟨h.lf,aH h.dp h1,aH h.bk h2⟩
theorem ahj{B:Nat}: ∀{ds:List ag},(∀x∈ds,x.bulk <=B) -> aO ds <=ds.length*(B+1)
 |[],_=> by simp [aO]
 |x::r,h=> by
  have:=ahj (ds:=r) fun y hy=> h y (az _ hy)
  have:=h x aB
  simp only [aO,aQ,Nat.add_mul,Nat.one_mul]at*
  lia
theorem ym{D B:Nat}(h: ∀x∈ds,Sm D B x)(hl:ds.length <=k)(hk:k <=30):Sm (D+1) (k*(B+1)) (.tuple ds):=by
 refine⟨.tup (by lia) (aH (du _ _) (by lia)) fun x hx=> (h x hx).lf,?_,?_⟩
 ·simp only [aJ]
  have:=yt fun x hx=> (h x hx).dp
  lia
 ·simp only [bt]
  exact aH (ahj fun x hx=> (h x hx).bk) (l9 _ hl)
theorem ao1{x:Str}(h:asc x=true)(hl:x.length <=9):Sm 0 9 (.str x):=⟨.str h (by lia),by simp [aJ],hl⟩
theorem ace(h:i.natAbs <=1000):Sm 0 9 (.int i):=⟨.int (by lia),by simp [aJ],by simp [bt]⟩
theorem vo{x:Str}(h:prB x=true):Sm 0 9 (.str x):=by
 unfold prB at h
 simp only [aG,decide_eq_true_eq,aI]at h
 refine ao1 ?_ (by lia)
 unfold asc
 rw [aI]
 intro c hc
 have:=h.2 c hc
 (simp only [aG,decide_eq_true_eq])
 lia
theorem vt{x:Str}(h:x∈(["both","loose","place","last","drain","either","only","copy","merge","net"]:List Str)):Sm 0 9 (.str x):=by
 have: ∀x∈(["both","loose","place","last","drain","either","only","copy","merge","net"]:List Str),asc x=true/\x.length <=9:=by decide+kernel
 exact ao1 (this x h).1 (this x h).2
theorem aaj(h: ∀x∈qs,prB x=true)(hl:qs.length <=k)(hk:k <=30):Sm 1 (k*10) (.tuple (qs.map aF)):=ym (D:=0) (B:=9) (fun x hx=> by
 (obtain⟨y,hy,rfl⟩:=bB.mp hx)
 exact vo (h y hy)) (by rw [ao];exact hl) hk
theorem ajp{P:ag -> Prop}{b c:ag}(ha:P a)(hb:P b)(hc:P c): ∀x∈ [a,b,c],P x:=by
 intro x hx
 (simp only [aw,bc,or_false]at hx)
 rcases hx with rfl|rfl|rfl <;> assumption
theorem as6{P:ag -> Prop}{b c:ag}(ha:P a)(hb:P b)(hc:P c)(hd:P d): ∀x∈ [a,b,c,d],P x:=by
 intro x hx
 (simp only [aw,bc,or_false]at hx)
 rcases hx with rfl|rfl|rfl|rfl <;> assumption
theorem vx{D A B C:Nat}{b c:ag}(ha:Sm D A a)(hb:Sm D B b)(hc:Sm D C c):Sm (D+1) (A+B+C+3) (.tuple [a,b,c]):=by
 refine⟨.tup (by simp) (aH (du _ _) (by simp)) (ajp ha.lf hb.lf hc.lf),?_,?_⟩
 ·simp only [aJ]
  have:=yt (ajp (P:=fun x=> x.depth <=D) ha.dp hb.dp hc.dp)
  lia
 ·simp only [bt,aO]
  have:=ha.bk
  have:=hb.bk
  have:=hc.bk
  lia
theorem aoy(h:PartD m ps d qs)(hm:m <=3)(hp: ∀x∈ps,prB x=true):Sm 2 170 d:=by
 have up: ∀{d:ag},Sm 0 9 d -> Sm 1 40 d:=fun h=> h.mono (by decide) (by decide)
 cases h with
 |two hw ha hb _=> exact (ym (k:=4) (ajp (up (vt (by simp at hw⊢;rcases hw with rfl|rfl|rfl|rfl <;> simp))) (up (vo (hp _ ha))) (up (vo (hp _ hb)))) (by simp) (by decide)).mono (by decide) (by decide)
 |held hw ha hb _ hx=>
  refine (ym (k:=4) (as6 (up (vt (by simp at hw⊢;rcases hw with rfl|rfl <;> simp))) (up (vo (hp _ ha))) (up (vo (hp _ hb))) (up ?_)) (by simp) (by decide)).mono (by decide) (by decide)
  rcases hx with rfl|⟨i,rfl,i0,i1⟩
  ·exact⟨.none,by simp [aJ],by simp [bt]⟩
  ·exact ace (by lia)
 | @only a b ts ha hb _ ht hl _=>
  refine (ym (k:=4) (as6 (up (vt (by simp))) (up (vo (hp _ ha))) (up (vo (hp _ hb))) ?_) (by simp) (by decide)).mono (by decide) (by decide)
  exact ym (D:=0) (B:=9) (k:=4) (fun x hx=> by
   (obtain⟨y,hy,rfl⟩:=bB.mp hx)
   have:=ht y hy
   exact ace (by lia)) (by rw [ao];lia) (by decide)
 | @copy a bs ha hb hl _=>
  exact (ym (k:=4) (ajp (up (vt (by simp))) (up (vo (hp _ ha))) (aaj (k:=4) (fun x hx=> hp x (hb x hx)) hl.2 (by decide))) (by simp) (by decide)).mono (by decide) (by decide)
 | @merge a bs ha hb hl _=>
  exact (ym (k:=4) (ajp (up (vt (by simp))) (aaj (k:=4) (fun x hx=> hp x (hb x hx)) hl.2 (by decide)) (up (vo (hp _ ha)))) (by simp) (by decide)).mono (by decide) (by decide)
noncomputable def dr:Nat -> Nat
 |0=> 0
 |k+1=> 20+3*(20+dr k)
noncomputable def bb:Nat -> Nat
 |0=> 0
 |k+1=> 3*(bb k+260)+260
structure DW {α:Type} (r:R α) (Q:α -> S -> Prop):Prop where
 w:r.W Q
theorem DW.mono{α:Type}{r:R α}{Q Q':α -> S -> Prop}(h:DW r Q)(k: ∀a s,Q a s -> Q' a s):r.W Q':=R.W_mono h.w k
structure NsQ (s0:S) (n c k:Nat) (d:D) (s:S):Prop where
 ex: ∃e:ag,d=.da e/\Sm (3*k+2) (bb k) e/\Fd s n (c+dr k)/\kc n s0 s
def an8(k:Nat)(F:FF):Prop:= ∀(s:S) (n c:Nat) (m:Int) (t:Nat),Fd s n c -> 1 <=m -> m <=3 -> t <=3 -> c+dr k+400 < 2^40 -> DW (F [.ref n,.int (k:Int),.int m,.int (t:Int)] s) (NsQ s n c k)
structure NsJ (s0:S) (n a c k:Nat) (m:Int) (t:Nat) (ps:List Str) (r:List D) (ρ:En) (s:S):Prop where
 ex: ∃(P:List ag) (c':Nat) (u6 u7:Option D),ρ=[some (.ref n),some (.int ((k+1:Nat):Int)),some (.int m),some (.int (t:Int)),some (.lst (ps.map aF)),some (.ref a),u6,u7]/\s[a]?=some (.lst (P.map D.da))/\P.length+r.length <=3/\(∀x∈P,Sm (3*k+3) (bb k+250) x)/\Fd s n c'/\c'+r.length*(20+dr k) <=c+3*(20+dr k)/\kc n s0 s/\s0.length <=a
def nsA(F:FF):FS:=(jf (jw 7 (fSl false (jd 2 k7 (ja (jb 0) (ja (jb 4) jc))) fNo (kh (jd 2 jg (ja (jb 0) (ja (fOp (jo false) (fCB afd (ja (fC (.da (.int 3))) (ja (fCB jr (ja (jb 4) jc)) jc))) (fC (.da (.int 1)))) jc))))))
  (xa (fMt vd (jb 5) (ja (jj (ja (fC (.da (.str "net"))) (ja (jd 4 F (ja (jb 0) (ja (fOp y3 (jb 1) (fC (.da (.int 1)))) (ja (jb 2) (ja (fCB jr (ja (jb 7) jc)) jc))))) (ja (fCB qp (ja (jb 7) jc)) jc)))) jc))))
def nsB:FS:=(xa (fMt vd (jb 5) (ja (jd 3 y9 (ja (jb 0) (ja (jb 2) (ja (jb 4) jc)))) jc)))
def nsL(F:FF):FS:=jp (qf (ji (fOp gGt (jb 1) (fC (.da (.int 1))))) (ji (fOp gEq (jd 2 jg (ja (jb 0) (ja (fC (.da (.int 2))) jc))) (fC (.da (.int 0)))))) (nsA F) nsB
theorem asy{s0 s2:S}{a c2:Nat}{t:Nat}{P:List ag}{u6 u7:Option D}{p:ag}(ha:s1[a]?=some (.lst (P.map D.da)))(hl:P.length+(r.length+1) <=3)(hP: ∀x∈P,Sm (3*k+3) (bb k+250) x)(hpt:Sm (3*k+3) (bb k+250) p)(fd:Fd s2 n c2)(h2:c2+r.length*(20+dr k) <=c+3*(20+dr k))(sm:kc n s0 s1)(sm2:kc n s1 s2)(hs0:s0.length <=a)(hn:n < s0.length):
  (vd (.ref a) [.da p] s2).W fun _ s'=> NsJ s0 n a c k m t ps r [some (.ref n),some (.int ((k+1:Nat):Int)),some (.int m),some (.int (t:Int)),some (.lst (ps.map aF)),some (.ref a),u6,u7] s':=by
 have la:a < s1.length:=(aE.mp ha).1
 have ha2:s2[a]?=some (.lst (P.map D.da)):=by rw [sm2.get _ (by lia) la];exact ha
 rw [acy ha2 (by rw [ao];lia),R.W_ok]
 refine⟨P++ [p],c2,_,_,rfl,?_,by simp;lia,?_,fd.set (by lia),h2,(sm.trans sm2).own (by lia),hs0⟩
 ·rw [bN (aU la sm2.len)];simp
 ·intro x hx
  rcases bI.mp hx with z|z
  ·exact hP x z
  ·rw [bd.mp z];exact hpt
theorem apx{s0 s2:S}{a c2:Nat}{t:Nat}{P:List ag}{u6 u7:Option D}{Q:Fl -> S -> Prop}(hm:1 <=m)(hm3:m <=3)(hp:2 <=ps.length)(hp5:ps.length <=5)(nd:ps.Nodup)(pr: ∀x∈ps,prB x=true)(hc:c+3*(20+dr k)+390 < 2^40)(ha:s1[a]?=some (.lst (P.map D.da)))(hl:P.length+(r.length+1) <=3)(hP: ∀x∈P,Sm (3*k+3) (bb k+250) x)(fd:Fd s2 n c2)(h2:c2+19+dr k+r.length*(20+dr k) <=c+3*(20+dr k))(sm:kc n s0 s1)(sm2:kc n s1 s2)(hs0:s0.length <=a)(hn:n < s0.length):
  (nsB [some (.ref n),some (.int ((k+1:Nat):Int)),some (.int m),some (.int (t:Int)),some (.lst (ps.map aF)),some (.ref a),u6,u7] s2).W (flW (NsJ s0 n a c k m t ps r) Q):=by
 have la:a < s1.length:=(aE.mp ha).1
 have ha2:s2[a]?=some (.lst (P.map D.da)):=by rw [sm2.get _ (by lia) la];exact ha
 unfold nsB
 walk_at "go"
 rw [agm ha2]
 walk_at "go"
 refine R.W_mono (apn fd hm hm3 hp (by lia) nd (by lia)) ?_
 rintro _ s3 ⟨d,qs,rfl,hd,fd3,sm3⟩
 walk_at "go"
 refine R.W_mono (asy (m:=m) (c:=c) (t:=t) (ps:=ps) (u6:=u6) (u7:=u7) ha hl hP ((aoy hd hm3 pr).mono (by lia) (by lia)) fd3 (by lia) sm (sm2.trans sm3) hs0 hn) fun _ s4 q=> ?_
 walk_at "go"
 exact q
theorem ag0(h:qs.Perm ps)(t:Nat)(pr: ∀x∈ps,prB x=true): ∀x∈qs.take t,prB x=true:=fun x hx=> pr x (h.mem_iff.mp (cx hx))
theorem a62{F:FF}{s0 s2:S}{a c2:Nat}{t:Nat}{P:List ag}{u6 u7:Option D}{Q:Fl -> S -> Prop}(hF:an8 k F)(hk:1 <=k)(hm:1 <=m)(hm3:m <=3)(hp:2 <=ps.length)(hp5:ps.length <=5)(nd:ps.Nodup)(pr: ∀x∈ps,prB x=true)(hc:c+3*(20+dr k)+390 < 2^40)(ha:s1[a]?=some (.lst (P.map D.da)))(hl:P.length+(r.length+1) <=3)(hP: ∀x∈P,Sm (3*k+3) (bb k+250) x)(fd:Fd s2 n c2)(h2:c2+19+dr k+r.length*(20+dr k) <=c+3*(20+dr k))(sm:kc n s0 s1)(sm2:kc n s1 s2)(hs0:s0.length <=a)(hn:n < s0.length):
  (nsA F [some (.ref n),some (.int ((k+1:Nat):Int)),some (.int m),some (.int (t:Int)),some (.lst (ps.map aF)),some (.ref a),u6,u7] s2).W (flW (NsJ s0 n a c k m t ps r) Q):=by
 have la:a < s1.length:=(aE.mp ha).1
 unfold nsA
 walk_at "go"
 refine R.W_mono (aga fd (by rw [ao];lia) (by rw [ao];lia)) ?_
 rintro _ s3 ⟨ys,rfl,pm,fd3,sm3⟩
 obtain⟨qs,pmq,rfl⟩:=aec pm
 have ql:=pmq.length_eq
 rw [ao]at fd3
 walk_at "go"
 refine R.W_mono (j8 fd3 (by split <;> lia) (by split <;> lia) (by lia)) ?_
 rintro _ s4 ⟨i,rfl,h0,h1,fd4,sm4⟩
 obtain⟨w,rfl⟩: ∃w:Nat,i=(w:Int):=⟨i.toNat,by lia⟩
 have w3:w <=3:=by split at h1 <;> lia
 walk_at "go"
 have ha4:s4[a]?=some (.lst (P.map D.da)):=by rw [((sm2.trans sm3).trans sm4).get _ (by lia) la];exact ha
 rw [agm ha4]
 walk_at "go"
 rw [show (((k+1:Nat):Int) - 1)=((k:Nat):Int) by lia,zp,aac,ao]
 have tl:(qs.take w).length <=3:=by rw [bX];lia
 refine (hF s4 n (c2+ps.length+1) m (qs.take w).length fd4 hm hm3 tl (by lia)).mono ?_
 rintro _ s5 ⟨N,rfl,hN,fd5,sm5⟩
 walk_at "go"
 refine R.W_mono (asy (m:=m) (p:=.tuple [.str "net",N,.tuple ((qs.take w).map aF)]) (c:=c) (t:=t) (ps:=ps) (u6:=u6) (u7:=some (D.lst ((qs.take w).map aF))) ha hl hP ?_ fd5 (by lia) sm (sm2.trans (sm3.trans (sm4.trans sm5))) hs0 hn) fun _ s6 q=> ?_
 ·exact (vx (D:=3*k+2) (A:=9) (B:=bb k) (C:=30) ((vt (by simp)).mono (by lia) (by lia)) hN ((aaj (k:=3) (ag0 pmq w pr) tl (by decide)).mono (by lia) (by lia))).mono (by lia) (by lia)
 walk_at "go"
 exact q
theorem a0c{F:FF}{s0:S}{a:Nat}{t:Nat}{d:D}{Q:Fl -> S -> Prop}(hF:1 <=k -> an8 k F)(hm:1 <=m)(hm3:m <=3)(hn:n < s0.length)(hp:2 <=ps.length)(hp5:ps.length <=5)(nd:ps.Nodup)(pr: ∀x∈ps,prB x=true)(hc:c+3*(20+dr k)+390 < 2^40)(h:NsJ s0 n a c k m t ps (d::r) ρ s1):
  ∃ρ1,vy (.nm 6) d ρ=some ρ1/\(nsL F ρ1 s1).W (flW (NsJ s0 n a c k m t ps r) Q):=by
 obtain⟨P,c',u6,u7,rfl,ha,hl,hP,fd,h2,sm,hs0⟩:=h
 simp only [aQ,Nat.add_mul,Nat.one_mul]at hl h2
 refine⟨[some (.ref n),some (.int ((k+1:Nat):Int)),some (.int m),some (.int (t:Int)),some (.lst (ps.map aF)),some (.ref a),some d,u7],rfl,?_⟩
 unfold nsL
 walk_at "go"
 by_cases hk:k=0
 ·subst hk
  walk_at "go"
  exact apx hm hm3 hp hp5 nd pr hc ha hl hP fd (by lia) sm (kc.refl _ _) hs0 hn
 ·have h1:(1:Int) < ((k+1:Nat):Int):=by lia
  rw [decide_eq_true h1]
  walk_at "go"
  refine R.W_mono (j8 fd (by decide) (by decide) (by lia)) ?_
  rintro _ s2 ⟨i,rfl,h0,h3,fd2,sm2⟩
  walk_at "go"
  rw [za]
  by_cases hi:i=0
  ·rw [decide_eq_true hi]
   walk_at "go"
   exact a62 (hF (by lia)) (by lia) hm hm3 hp hp5 nd pr hc ha hl hP fd2 (by lia) sm sm2 hs0 hn
  ·rw [decide_eq_false hi]
   walk_at "go"
   exact apx hm hm3 hp hp5 nd pr hc ha hl hP fd2 (by lia) sm sm2 hs0 hn
theorem a35{F:FF}:B_law_nest F=(jf (jw 4 (jd 2 yb (ja (jb 0) (ja (fOp (jo false) (fCB ajq (ja (fC (.da (.int 2))) (ja (jb 3) jc))) (jd 2 jg (ja (jb 0) (ja (fC (.da (.int 3))) jc)))) jc))))
  (jf (jw 5 (kv true jc))
  (jf (zq (ac5 (ja (jd 2 jg (ja (jb 0) (ja (fC (.da (.int 4))) jc))) jc)) (.nm 6) (nsL F))
  (jh (jj (ja (jb 2) (ja (fCB qp (ja (fSl false (jd 2 k7 (ja (jb 0) (ja (jb 4) jc))) fNo (kh (jb 3))) jc)) (ja (fCB qp (ja (jb 5) jc)) jc)))))))):=rfl
theorem a2b:ajq [.int i,.int j] s=.ok (.int (if j > i then j else i)) s:=(rfl)
theorem max_two{t:Nat}:ajq [.da (.int 2),.int (t:Int)] s=.ok (.int ((max 2 t:Nat):Int)) s:=by
 rw [show (D.da (.int 2))=.int 2 from rfl,a2b]
 congr 2
 split <;> lia
theorem ao2{F:FF}(hF:1 <=k -> an8 k F):an8 (k+1) (fun as s=> (B_law_nest F (as.map some++ [none,none,none,none]) s).bind jn):=by
 intro s n c m t fd hm hm3 ht hc
 have hn:=fd.lt
 simp only [dr]at hc
 refine⟨?_⟩
 rw [a35]
 simp only [aP,dQ]
 walk_at "go"
 rw [max_two]
 walk_at "go"
 refine R.W_mono (j8 fd (by decide) (by decide) (by lia)) ?_
 rintro _ s1 ⟨i,rfl,h0,h1,fd1,sm1⟩
 obtain⟨w,rfl⟩: ∃w:Nat,i=(w:Int):=⟨i.toNat,by lia⟩
 walk_at "go"
 rw [show (((max 2 t:Nat):Int)+(w:Int))=((max 2 t+w:Nat):Int) by lia]
 refine R.W_mono (amx fd1 (by lia) (by lia)) ?_
 rintro _ s2 ⟨ps,rfl,pl,nd,pr,fd2,sm2⟩
 walk_at "go"
 have x0:=Ext.add s2 [O.lst []]
 refine R.W_mono (j8 (fd2.ext x0) (by decide) (by decide) (by lia)) ?_
 rintro _ s3 ⟨i,rfl,g0,g1,fd3,sm3⟩
 obtain⟨q,rfl⟩: ∃q:Nat,i=(q:Int):=⟨i.toNat,by lia⟩
 walk_at "go"
 rw [ade (by lia) (by lia)]
 walk_at "go"
 have hn2:n < s2.length:=fd2.lt
 have hl3:s2.length < s3.length:=aU (by simp) sm3.len
 refine zw (NsJ s2 n s2.length (c+4) k m t ps) (fun d r ρ s' h=> a0c hF hm hm3 hn2 (by lia) (by lia) nd pr (by lia) h) ?_ _ _ _ ⟨[],c+4,_,_,rfl,?_,?_,(fun _ h=> by cases h),fd3,?_,x0.same n|>.trans sm3,au _⟩
 ·rintro ρ s4 ⟨P,c',u6,u7,rfl,ha,hl,hP,fd4,h4,sm4,_⟩
  walk_at "go"
  refine R.W_mono (aga fd4 (by rw [ao];lia) (by rw [ao];lia)) ?_
  rintro _ s5 ⟨ys,rfl,pm,fd5,sm5⟩
  obtain⟨qs,pmq,rfl⟩:=aec pm
  rw [ao]at fd5
  walk_at "go"
  rw [af9 (xs:=P) (by rw [sm5.get _ (by lia) (aE.mp ha).1];exact ha)]
  walk_at "go"
  rw [zp,aac]
  have tl:(qs.take t).length <=3:=by rw [bX];lia
  simp only [dZ,Nat.zero_mul,Nat.add_zero]at h4 hl
  refine⟨.tuple [.int m,.tuple ((qs.take t).map aF),.tuple P],rfl,?_,?_,((sm1.trans sm2).trans sm4).trans sm5⟩
  ·exact (vx (D:=3*k+4) (A:=9) (B:=30) (C:=3*(bb k+251)) ((ace (by lia)).mono (by lia) (by lia)) ((aaj (k:=3) (ag0 pmq t pr) tl (by decide)).mono (by lia) (by lia)) ((ym (D:=3*k+3) (B:=bb k+250) (k:=3) hP hl (by decide)).mono (by lia) (by lia))).mono (by lia) (by show _ <=3*(bb k+260)+260;lia)
  ·refine fd5.le ?_
   show _ <=c+(20+3*(20+dr k))
   lia
 ·rw [sm3.get _ (by lia) (by simp)];simp
 ·simp [qv];lia
 ·rw [qv]
  have:(q:Int).toNat <=3:=by lia
  have:=l9 (20+dr k) this
  lia
theorem aqa: ∀k f:Nat,k < f -> an8 (k+1) (v8 f)
 |0,f+1,_=> ao2 (k:=0) (F:=v8 f) (fun h=> absurd h (by decide))
 |k+1,f+1,h=> ao2 (F:=v8 f) (fun _=> aqa k f (by lia))
theorem ae9(z:Str)(lo hi:Option Int):(af6 z lo hi).length <=z.length/\ ∀c∈(af6 z lo hi).cps.toList,c∈z.cps.toList:=by
 unfold af6
 split
 ·exact⟨au _,fun _ h=> h⟩
 ·constructor
  ·show (((di lo hi 1 z.length).filterMap (z.cps[·]?)).toArray).size <=z.length
   rw [ax]
   exact aH (kD _ _) (sliceIndices_le _ _ _)
  ·intro c hc
   have hc':c∈(di lo hi 1 z.length).filterMap (z.cps[·]?):=by simpa using hc
   obtain⟨i,_,e⟩:=iP.mp hc'
   exact lW.mpr (Array.mem_of_getElem? e)
theorem apb{z:Str}(h:asc z=true)(lo hi:Option Int):asc (af6 z lo hi)=true:=by
 unfold asc at h⊢
 rw [aI]at h⊢
 exact fun c hc=> h c ((ae9 z lo hi).2 c hc)
theorem awk(x y:Str):(x++y).cps.toList=x.cps.toList++y.cps.toList:=by
 show (x.cps++y.cps).toList=_
 rw [Array.toList_append]
theorem ape{x:Str}(h1:asc x=true)(h2:asc y=true):asc (x++y)=true:=by
 unfold asc at h1 h2⊢
 rw [awk,List.all_append,h1,h2];rfl
theorem ae1(x y:Str):(x++y).length=x.length+y.length:=by
 show (x.cps++y.cps).size=_
 rw [Array.size_append];rfl
theorem ac4(xs ys:List ag):aO (xs++ys)=aO xs+aO ys:=by
 induction xs with
 |nil=> simp [aO]
 |cons x r ih=> simp only [cK,aO,ih];lia
theorem ayd(xs:List ag):aO xs.reverse=aO xs:=by
 induction xs with
 |nil=> rfl
 |cons x r ih=> simp only [fw,ac4,ih,aO];lia
theorem afc(xs:List ag)(k:Nat):aO (xs.take k)+aO (xs.drop k)=aO xs:=by rw [←ac4,hW]
def wN(ds:List ag):Nat:=(ds.filter vz).length
theorem abk(xs ys:List ag):wN (xs++ys)=wN xs+wN ys:=by unfold wN;rw [List.filter_append,bv]
theorem aji(xs:List ag)(k:Nat):wN (xs.take k)+wN (xs.drop k)=wN xs:=by rw [←abk,hW]
theorem atn(xs:List ag):wN xs <=xs.length:=du _ _
theorem a42(xs:List ag):wN xs.reverse=wN xs:=by unfold wN;rw [List.filter_reverse,mE]
theorem amy{α:Type}(xs:List α)(t:Nat):xs.take (t+1)=xs.take t++(xs.drop t).take 1:=by rw [List.take_add]
theorem awx{α:Type}{xs:List α}{x:α}(h:xs[k]?=some x):xs.drop k=x::xs.drop (k+1):=by
 obtain⟨hk,e⟩:=aE.mp h
 rw [eB hk,e]
theorem ai9{z:Str}{j:Nat}(hz:z.length <=16777216)(h:z.cps.toList[j]?=some c):gIx (.str z) (.int (j:Int)) s=.ok (.str ⟨#[c]⟩) s:=by
 show (if z.length <=sizeLine then (match atI z.cps.toList (j:Int) with|some c=> R.ok (D.str ⟨#[c]⟩) s|none=>.bad) else .bad)=_
 rw [if_pos (by rw [kz];exact hz),agp h]
theorem ixP{L:List ag}{w:Int}{P:ag -> Prop}(h0:0 <=w)(h1:w < L.length)(h: ∀x∈L,P x): ∃x,P x/\gIx (.lst L) (.int w) s=.ok (.da x) s:=by
 obtain⟨q,rfl⟩:=ab4 w (by assumption)
 have hq:q < L.length:=by lia
 exact⟨L[q],h _ (cz hq),agh (ar hq)⟩
theorem at6: ∀j:Nat,j < 26 -> ∃c,(bg "abcdefghijklmnopqrstuvwxyz").cps.toList[j]?=some c/\9 <=c/\c < 127:=by decide+kernel
theorem ba5(n:Nat):4^(n+1)=4*4^n:=by rw [Nat.pow_succ,Nat.mul_comm]
theorem am9(n:Nat):1 <=4^n:=Nat.pow_pos (by decide)
theorem a3x{x:Str}(h:Lf n (.str x))(hn:n <=3):asc x=true/\x.length <=40*4^n/\x.length <=2560:=by
 cases h with
 |str a b=> exact⟨a,b,aH b (mL 40 (l8 (n:=4) (by decide) hn))⟩
structure BentK (n B dp:Nat) (d:ag):Prop where
 lf:Lf (n+1) d
 bk:d.bulk <=2*B+60
 dp:d.depth <=dp+2
structure BentQ (s:S) (k c n B dp:Nat) (r:D) (s':S):Prop where
 ex: ∃d',r=.da d'/\BentK n B dp d'/\Fd s' k c/\kc k s s'
noncomputable def arn:List ag:=[.none,.bool true,.bool false,.int 0,.int 1,.int 2,.int 3,.int (-1),.str "a",.str "",.str "ab",.str "A",.str "ninesigns",.str "net",.str "merge",.str "place",.tuple [],.list [],.tuple [.str "a"]]
theorem amu: ∀x∈(["","a","ab","A","ninesigns","net","merge","place"]:List Str),asc x=true/\x.cps.size <=9:=by decide+kernel
theorem y7(n B dp:Nat){x:Str}(h:x∈(["","a","ab","A","ninesigns","net","merge","place"]:List Str)):BentK n B dp (.str x):=by
 obtain⟨a,b⟩:=amu x h
 have:=am9 (n+1)
 exact⟨.str a (by show x.cps.size <=_;lia),by show x.cps.size <=_;lia,by simp [aJ]⟩
theorem ads(n B dp:Nat)(h:i.natAbs <=1000):BentK n B dp (.int i):=⟨.int (by lia),by simp [bt],by simp [aJ]⟩
theorem a0t(n B dp:Nat): ∀x∈arn,BentK n B dp x:=by
 intro x hx
 simp only [arn,aw,bc,or_false]at hx
 rcases hx with rfl|rfl|rfl|rfl|rfl|rfl|rfl|rfl|rfl|rfl|rfl|rfl|rfl|rfl|rfl|rfl|rfl|rfl|rfl
 ·exact⟨.none,by simp [bt],by simp [aJ]⟩
 ·exact⟨.bool _,by simp [bt],by simp [aJ]⟩
 ·exact⟨.bool _,by simp [bt],by simp [aJ]⟩
 ·exact ads n B dp (by decide)
 ·exact ads n B dp (by decide)
 ·exact ads n B dp (by decide)
 ·exact ads n B dp (by decide)
 ·exact ads n B dp (by decide)
 ·exact y7 n B dp (by simp)
 ·exact y7 n B dp (by simp)
 ·exact y7 n B dp (by simp)
 ·exact y7 n B dp (by simp)
 ·exact y7 n B dp (by simp)
 ·exact y7 n B dp (by simp)
 ·exact y7 n B dp (by simp)
 ·exact y7 n B dp (by simp)
 ·exact⟨.tup (by simp) (by simp) (fun x h=> by cases h),by simp [bt,aO],by simp [aJ,aN]⟩
 ·exact⟨.lst (by simp) (fun x h=> by cases h),by simp [bt,aO],by simp [aJ,aN]⟩
 ·have h1:=y7 n B dp (x:="a") (by simp)
  have h2:=(amu "a" (by simp)).2
  refine⟨.tup (by simp;lia) (aH (du _ _) (by simp;lia)) (fun x h=> by rw [bd.mp h];exact h1.lf),?_,by simp [aJ,aN]⟩
  simp only [bt,aO]
  lia
section
variable{s s1:S}{k c0 c n B:Nat}{d:ag}{ρ2:Option D}{F:FF}{w:Int}
theorem a89{dp:Nat}(h:Fd s1 k c0)(sm:kc k s s1)(hc:c0+1 <=c)(hc2:c < 2^40):
  (yy F [some (.ref k),some (.da d),ρ2,some (.int w),none] s1).W fun fl s'=> (jn fl s').W (BentQ s k c n B dp):=by
 unfold yy acn
 walk_at "go"
 rw [show∀s:S,aao false [D.da .none,.da (.bool true),.da (.bool false),.da (.int 0),.da (.int 1),.da (.int 2),.da (.int 3),.int (-1),.da (.str "a"),.da (.str ""),.da (.str "ab"),.da (.str "A"),.da (.str "ninesigns"),.da (.str "net"),.da (.str "merge"),.da (.str "place"),.tup [],.lst [],.tup [.str "a"]] s=.ok (.lst arn) s from fun s=> rfl]
 walk_at "go"
 refine R.W_mono (j8 h (by decide) (by decide) (by lia)) ?_
 rintro _ s2 ⟨j,rfl,j0,j1,fd2,sm2⟩
 obtain⟨z,pz,ez⟩:=ixP (s:=s2) (L:=arn) (P:=BentK n B dp) j0 j1 (a0t n B dp)
 walk_at "go"
 rw [ez]
 walk_at "go"
 exact⟨z,rfl,pz,fd2.le hc,sm.trans sm2⟩
theorem a7b(h:Fd s1 k c0)(sm:kc k s s1)(hc:c0+3 <=c)(hc2:c < 2^40)(hn:n <=3)(hd:Lf n d)(hB:d.bulk <=B):
  (aa3 F [some (.ref k),some (.da d),ρ2,some (.int w),none] s1).W fun fl s'=> (jn fl s').W (BentQ s k c n B d.depth):=by
 have go: ∀ρ2:Option D,(yy F [some (.ref k),some (.da d),ρ2,some (.int w),none] s1).W fun fl s'=> (jn fl s').W (BentQ s k c n B d.depth):=fun ρ2=> a89 (F:=F) h sm (by lia) hc2
 unfold aa3
 walk_at "go"
 cases d with
 | str x=>
  obtain⟨ha,hx1,hx2⟩:=a3x hd hn
  have hx:x.length <=B:=hB
  rw [show kj (.str x) "str"=true from rfl]
  walk_at "go"
  rw [acj (It.ok ⟨fun y e=> by cases e;exact⟨ha,by lia⟩,hd.lay,by simp [aJ]⟩) (by decide+kernel),a00]
  by_cases hz:x=""
  ·rw [show (!isS "" (.str x))=false by simp [isS,hz]]
   walk_at "go"
   exact go _
  ·rw [show (!isS "" (.str x))=true by simp [isS,hz]]
   walk_at "go"
   by_cases hw:1 < w
   ·rw [decide_eq_true hw]
    walk_at "go"
    rw [len_str (by lia)]
    walk_at "go"
    have lp:0 < x.length:=by
     rcases Nat.eq_zero_or_pos x.length with e|e
     ·exact absurd (show x=bg "" by cases x with|mk a=> have z:a= #[]:=Array.eq_empty_of_size_eq_zero e;subst z;rfl) hz
     ·exact e
    refine R.W_mono (j8 h (by lia) (by lia) (by lia)) ?_
    rintro _ s2 ⟨a,rfl,a0,a1,fd2,sm2⟩
    walk_at "go"
    rw [aqe (by lia)]
    walk_at "go"
    refine R.W_mono (j8 fd2 (by decide) (by decide) (by lia)) ?_
    rintro _ s3 ⟨t,rfl,t0,t1,fd3,sm3⟩
    obtain⟨q,rfl⟩:=ab4 t (by assumption)
    obtain⟨ch,hch,c1,c2⟩:=at6 q (by lia)
    walk_at "go"
    rw [ai9 (by decide+kernel) hch]
    walk_at "go"
    have l1:=(ae9 x none (some a)).1
    have l2:=(ae9 x (some (a+1)) none).1
    have l3:(⟨#[ch]⟩:Str).length=1:=rfl
    have ac:asc ⟨#[ch]⟩=true:=by
     show ([ch].all fun c=> decide (9 <=c)&&decide (c < 127))=true
     simp [c1,c2]
    rw [ahe (by lia)]
    walk_at "go"
    rw [aqe (by lia)]
    walk_at "go"
    rw [ahe (by rw [ae1];lia)]
    walk_at "go"
    have p4:=ba5 n
    have p0:=am9 n
    refine⟨_,rfl,⟨.str (ape (ape (apb ha _ _) ac) (apb ha _ _)) ?_,?_,by simp [aJ]⟩,fd3.le (by lia),sm.trans (sm2.trans sm3)⟩
    ·rw [ae1,ae1];lia
    ·show Str.length _ <=_
     rw [ae1,ae1];lia
   ·rw [decide_eq_false hw]
    walk_at "go"
    exact go _
 |none=> exact go _
 |bool b=> exact go _
 |int _=> exact go _
 |tuple _=> exact go _
 |list _=> exact go _
 |_=> cases hd
theorem a7f(h:Fd s1 k c0)(sm:kc k s s1)(hc:c0+3 <=c)(hc2:c < 2^40)(hn:n <=3)(hd:Lf n d)(hB:d.bulk <=B)(w0:0 <=w)(w5:w < 5):
  (y2 F [some (.ref k),some (.da d),ρ2,some (.int w),none] s1).W fun fl s'=> (jn fl s').W (BentQ s k c n B d.depth):=by
 have go:=a7b (F:=F) (ρ2:=ρ2) (w:=w) h sm hc hc2 hn hd hB
 have ip: ∀i:Int,i.natAbs <=1000+(n+1) -> BentK n B d.depth (.int i):=fun i hi=> ⟨.int hi,by simp [bt],by simp [aJ]⟩
 have bp: ∀b:Bool,BentK n B d.depth (.bool b):=fun b=> ⟨.bool b,by simp [bt],by simp [aJ]⟩
 unfold y2
 walk_at "go"
 cases hd with
 | @int i hi=>
  rw [show kj (.int i) "int"=true from rfl]
  walk_at "go"
  by_cases hw:0 < w
  ·rw [decide_eq_true hw]
   walk_at "go"
   rw [za]
   walk_at "go"
   obtain⟨x,px,ex⟩:=ixP (s:=s1) (L:=[.int (-1 - i),.int (i+1),.int (i - 1),.bool (decide (i=1))]) (P:=BentK n B (aD i).depth) (w:=w - 1) (by lia) (by simp;lia) (by
    intro x hx
    (simp only [aw,bc,or_false]at hx)
    rcases hx with rfl|rfl|rfl|rfl
    ·exact ip _ (by lia)
    ·exact ip _ (by lia)
    ·exact ip _ (by lia)
    ·exact bp _)
   rw [ex]
   walk_at "go"
   exact⟨x,rfl,px,h.le (by lia),sm⟩
  ·rw [decide_eq_false hw]
   walk_at "go"
   exact go
 | bool b=>
  rw [show kj (.bool b) "int"=true from rfl]
  walk_at "go"
  by_cases hw:0 < w
  ·rw [decide_eq_true hw]
   walk_at "go"
   rw [ac8 rfl rfl]
   walk_at "go"
   have hb:(b01 b).natAbs <=1:=by cases b <;> decide
   obtain⟨x,px,ex⟩:=ixP (s:=s1) (L:=[.int (-1 - b01 b),.int (b01 b+1),.int (b01 b - 1),.bool (aM (.bool b) (.int 1))]) (P:=BentK n B (cj b).depth) (w:=w - 1) (by lia) (by simp;lia) (by
    intro x hx
    (simp only [aw,bc,or_false]at hx)
    rcases hx with rfl|rfl|rfl|rfl
    ·exact ip _ (by lia)
    ·exact ip _ (by lia)
    ·exact ip _ (by lia)
    ·exact bp _)
   rw [ex]
   walk_at "go"
   exact⟨x,rfl,px,h.le (by lia),sm⟩
  ·rw [decide_eq_false hw]
   walk_at "go"
   exact go
 |none=> exact go
 |str _ _=> exact go
 |tup _ _ _=> exact go
 |lst _ _=> exact go
theorem amc(h:Lf n (.tuple ds)):ds.length <=140+n/\wN ds <=30+n/\ ∀x∈ds,Lf n x:=by
 cases h with
 |tup a b c=> exact⟨a,b,c⟩
theorem a6t(h:Fd s1 k c0)(sm:kc k s s1)(hc:c0+4 <=c)(hc2:c < 2^40)(hn:n <=3)(hd:Lf n d)(hB:d.bulk <=B)(w0:0 <=w)(w5:w < 5):
  (aab F [some (.ref k),some (.da d),ρ2,some (.int w),none] s1).W fun fl s'=> (jn fl s').W (BentQ s k c n B d.depth):=by
 have go: ∀ρ2:Option D,(y2 F [some (.ref k),some (.da d),ρ2,some (.int w),none] s1).W fun fl s'=> (jn fl s').W (BentQ s k c n B d.depth):=fun ρ2=> a7f (F:=F) (ρ2:=ρ2) (w:=w) h sm (by lia) hc2 hn hd hB w0 w5
 unfold aab
 walk_at "go"
 cases d with
 | tuple ds=>
  obtain⟨hl,hw0,hx⟩:=amc hd
  have hB':aO ds <=B:=by simpa only [bt] using hB
  rw [show kj (.tuple ds) "tuple"=true from rfl]
  walk_at "go"
  by_cases hw:0 < w
  ·rw [decide_eq_true hw]
   walk_at "go"
   refine R.W_mono (j8 h (by lia) (by lia) (by lia)) ?_
   rintro _ s2 ⟨j,rfl,j0,j1,fd2,sm2⟩
   obtain⟨t,rfl⟩:=ab4 j (by assumption)
   walk_at "go"
   rw [show (t:Int)+1=((t+1:Nat):Int) by lia,aac,abf]
   rw [zx (by simp;lia)]
   walk_at "go"
   try rw [show (t:Int)+1=((t+1:Nat):Int) by lia]
   rw [aac,abf]
   rw [zx (by simp;lia)]
   walk_at "go"
   have u1:=afc ds t
   have u2:=afc ds (t+1)
   have v1:=aji ds t
   have v2:=aji ds (t+1)
   have v3:wN (ds.take (t+1)) <=wN (ds.take t)+1:=by
    rw [amy,abk]
    have:=atn ((ds.drop t).take 1)
    have:((ds.drop t).take 1).length <=1:=by rw [bX];lia
    lia
   have v4:wN (ds.take t) <=wN (ds.take (t+1)):=by rw [amy,abk];lia
   have all: ∀(f:List ag -> ag) (es:List ag),(f=bR\/f=lw) -> es.length <=ds.length+1 -> wN es <=wN ds+1 -> (∀y∈es,y∈ds) -> aO es <=2*B+60 -> BentK n B (bR ds).depth (f es):=by
    intro f es hf h1 hw h2 h3
    have h4:aN es <=aN ds:=yt fun y hy=> yp (h2 y hy)
    have m: ∀y∈es,Lf (n+1) y:=fun y hy=> (hx y (h2 y hy)).mono (by lia)
    rcases hf with rfl|rfl
    ·exact⟨.tup (by lia) (by show wN es <=_;lia) m,by simpa only [bt] using h3,by simp only [aJ];lia⟩
    ·exact⟨.lst (by lia) m,by simpa only [bt] using h3,by simp only [aJ];lia⟩
   obtain⟨z,pz,ez⟩:=ixP (s:=s2) (L:=[.list ds,.tuple (ds.take t++ds.drop (t+1)),.tuple (ds.take (t+1)++ds.drop t),.tuple ds.reverse]) (P:=BentK n B (bR ds).depth) (w:=w - 1) (by lia) (by simp;lia) (by
    intro y hy
    simp only [aw,bc,or_false]at hy
    rcases hy with rfl|rfl|rfl|rfl
    ·exact all lw ds (.inr rfl) (by lia) (by lia) (fun _ h=> h) (by lia)
    ·exact all bR _ (.inl rfl) (by rw [bv,bX,eI];lia) (by rw [abk];lia) (fun y hm=> (bI.mp hm).elim cx cN) (by rw [ac4];lia)
    ·exact all bR _ (.inl rfl) (by rw [bv,bX,eI];lia) (by rw [abk];lia) (fun y hm=> (bI.mp hm).elim cx cN) (by rw [ac4];lia)
    ·exact all bR _ (.inl rfl) (by simp) (by rw [a42];lia) (fun y hm=> List.mem_reverse.mp hm) (by rw [ayd];lia))
   rw [ez]
   walk_at "go"
   exact⟨z,rfl,pz,fd2.le (by lia),sm.trans sm2⟩
  ·rw [decide_eq_false hw]
   walk_at "go"
   exact go _
 |none=> exact go _
 |bool b=> exact go _
 |int _=> exact go _
 |str _=> exact go _
 |list _=> exact go _
 |_=> cases hd
theorem a8a{ρ3:Option D}(h:Fd s1 k c0)(sm:kc k s s1)(hc:c0+5 <=c)(hc2:c < 2^40)(hn:n <=3)(hd:Lf n d)(hB:d.bulk <=B):
  (yz F [some (.ref k),some (.da d),ρ2,ρ3,none] s1).W fun fl s'=> (jn fl s').W (BentQ s k c n B d.depth):=by
 unfold yz
 walk_at "go"
 refine R.W_mono (j8 h (by decide) (by decide) (by lia)) ?_
 rintro _ s2 ⟨j,rfl,j0,j1,fd2,sm2⟩
 walk_at "go"
 exact a6t fd2 (sm.trans sm2) (by lia) hc2 hn hd hB j0 j1
end
theorem axn(xs:List ag):aM (.tuple xs) (.tuple [])=xs.isEmpty:=by cases xs <;> rfl
theorem ag2: ∀(f:Nat) {s:S} {k c n B:Nat} {d:ag},Fd s k c -> Lf n d -> d.bulk <=B -> d.depth < f -> n <=3 -> f <=60 -> c+8*f < 2^40 -> (jq f [.ref k,.da d] s).W (BentQ s k (c+8*f) n B d.depth)
 |0,s,k,c,n,B,d,_,_,_,h,_,_,_=> by lia
 | f + 1,s,k,c,n,B,d,h,hd,hB,hf,hn,f60,hc=> by
  rw [arz,R.W_bind]
  unfold B_law_bent
  have go: ∀s1 ρ2 ρ3,Fd s1 k (c+2) -> kc k s s1 -> (yz (jq f) [some (.ref k),some (.da d),ρ2,ρ3,none] s1).W fun fl s'=> (jn fl s').W (BentQ s k (c+8*(f+1)) n B d.depth):=fun s1 ρ2 ρ3 fd sm=> a8a fd sm (by lia) hc hn hd hB
  walk_at "go"
  by_cases ht: ∃ds,d=.tuple ds
  ·obtain⟨ds,rfl⟩:=ht
   rw [show kj (.tuple ds) "tuple"=true from rfl]
   walk_at "go"
   rw [show (D.tup [])=.da (.tuple []) from rfl,acj (It.ok ⟨fun y e=> (by cases e),hd.lay,by lia⟩) rfl,axn]
   by_cases hds:0 < ds.length
   ·rw [show (!ds.isEmpty)=true by cases ds <;> simp at hds⊢]
    walk_at "go"
    refine R.W_mono (j8 h (by decide) (by decide) (by lia)) ?_
    rintro _ s1 ⟨j,rfl,j0,j1,fd1,sm1⟩
    walk_at "go"
    by_cases hj:0 < j
    ·rw [decide_eq_true hj]
     obtain⟨hl,hw,hx⟩:=amc hd
     walk_at "go"
     refine R.W_mono (j8 fd1 (by lia) (by lia) (by lia)) ?_
     rintro _ s2 ⟨t,rfl,t0,t1,fd2,sm2⟩
     obtain⟨q,rfl⟩:=ab4 t (by assumption)
     have hq:q < ds.length:=by lia
     have gq:ds[q]?=some ds[q]:=ar hq
     have hB':aO ds <=B:=by simpa only [bt] using hB
     have b1:=afc ds q
     have b2:(ds[q]).depth <=aN ds:=yp (cz hq)
     have b3:=aji ds q
     rw [awx gq]at b1 b3
     have b4:wN (ds[q]::ds.drop (q+1))=wN [ds[q]]+wN (ds.drop (q+1)):=abk [_] _
     simp only [aO]at b1
     have dd:(bR ds).depth=aN ds+1:=by simp only [aJ]
     walk_at "go"
     rw [vc gq]
     walk_at "go"
     refine R.W_mono (ag2 f (B:=(ds[q]).bulk) fd2 (hx _ (cz hq)) (au _) (by lia) hn (by lia) (by lia)) ?_
     rintro _ s3 ⟨d',rfl,⟨lf,bk,dp⟩,fd3,sm3⟩
     walk_at "go"
     rw [aac]
     rw [zx (by simp;lia)]
     walk_at "go"
     rw [show (q:Int)+1=((q+1:Nat):Int) by lia,abf]
     rw [zx (by simp;lia)]
     walk_at "go"
     refine⟨_,rfl,⟨.tup (by simp;lia) ?_ (fun x hm=> ?_),?_,?_⟩,fd3.le (by lia),sm1.trans (sm2.trans sm3)⟩
     ·show wN _ <=_
      have b5:=atn [d']
      have b6:wN (ds.take q++d'::ds.drop (q+1))=wN (ds.take q)+(wN [d']+wN (ds.drop (q+1))):=by rw [abk,←abk [d']];rfl
      first|rw [b6]|(rw [cQ];show wN (ds.take q++d'::ds.drop (q+1)) <=_;rw [b6])
      simp only [lE]at b5
      lia
     ·have hm:x∈ds.take q++d'::ds.drop (q+1):=by simpa using hm
      rcases bI.mp hm with z|z
      ·exact (hx x (cx z)).mono (by lia)
      ·rcases aw.mp z with rfl|z
       ·exact lf
       ·exact (hx x (cN z)).mono (by lia)
     ·show aO _ <=_
      simp only [ac4,aO]
      lia
     ·have:aN (ds.take q++d'::ds.drop (q+1)) <=aN ds+2:=yt fun x hm=> by
       rcases bI.mp hm with z|z
       ·exact aH (yp (cx z)) (Nat.le_add_right _ _)
       ·rcases aw.mp z with z|z
        ·rw [z];exact aH dp (Nat.add_le_add_right (yp (cz hq)) 2)
        ·exact aH (yp (cN z)) (Nat.le_add_right _ _)
      simp only [aJ]
      first|exact jY this|(rw [cQ];exact jY this)
    ·rw [decide_eq_false hj]
     walk_at "go"
     exact go s1 _ _ (fd1.le (by lia)) sm1
   ·rw [show (!ds.isEmpty)=false by cases ds <;> simp at hds⊢]
    walk_at "go"
    exact go s _ _ (h.le (by lia)) (kc.refl _ _)
  ·rw [show kj d "tuple"=false by cases d <;> first|rfl|exact absurd ⟨_,rfl⟩ ht]
   walk_at "go"
   exact go s _ _ (h.le (by lia)) (kc.refl _ _)
theorem a2x(m:Nat):yg 0 m=(bn m).map fun k:Nat=> D.int (k:Int):=by
 apply dF
 intro j
 by_cases h:j < m
 ·rw [aje m 0 j h,aL,eO h]
  simp
 ·rw [cX (by rw [qv];lia),cX (by simp;lia)]
noncomputable def kn(k:Nat):Str:=bg "p"++⟨#[((bg "abcdefghijklmnop").cps.toList[k]?).getD 97]⟩
theorem auo: ∀k:Nat,k < 16 -> prB (kn k)=true/\ ∃c,(bg "abcdefghijklmnop").cps.toList[k]?=some c/\kn k=bg "p"++⟨#[c]⟩:=by decide+kernel
theorem a9d(b:Bool): ∃(o:Str) (j:Int),prB o=true/\(∀s:S,ahi [.bl b] s=.ok (.int j) s)/\ ∀s:S,gIx (.lst [.str "a",.str "pb"]) (.int j) s=.ok (.str o) s:=by
 cases b
 ·exact⟨"a",0,by decide+kernel,fun _=> rfl,fun _=> rfl⟩
 ·exact⟨"pb",1,by decide+kernel,fun _=> rfl,fun _=> rfl⟩
def knC:FS:=(jf (jw 3 (fOp gIx (kv false (fVs (bM D.da [.str "a",.str "pb"]))) (fCB ahi (ja (fOp gEq (jd 2 jg (ja (jb 0) (ja (fC (.da (.int 5))) jc))) (fC (.da (.int 0)))) jc))))
  (jh (kv false (ja (jj (ja (fC (.da (.str "copy"))) (ja (jb 3) (ja (fCB qp (ja (jb 2) jc)) jc)))) (ja (jj (ja (fC (.da (.str "merge"))) (ja (fCB qp (ja (jb 2) jc)) (ja (jb 3) jc)))) (ja (jj (ja (fC (.da (.str "copy"))) (ja (jb 3) (ja (jj jc) jc)))) (ja (jj (ja (fC (.da (.str "merge"))) (ja (jj jc) (ja (jb 3) jc)))) jc)))))))
structure KnQ (s:S) (n c:Nat) (d:D) (s':S):Prop where
 ex: ∃L:List ag,d=.lst L/\L.length=4/\(∀x∈L,Sm 2 170 x/\ ∃ds,x=.tuple ds)/\Fd s' n c/\kc n s s'
theorem ai4:Sm 1 130 (.tuple []):=⟨.tup (by simp) (by simp) (fun x h=> by cases h),by simp [aJ,aN],by simp [bt,aO]⟩
theorem auh{a:Nat}{m:D}(fd:Fd s1 n c)(sm:kc n s s1)(ha:s1[a]?=some (.lst ((qs.map aF).map D.da)))(hna:a≠n)(hq: ∀x∈qs,prB x=true)(hl:qs.length <=13)(hc:c+1 < 2^40):
  (knC [some (.ref n),some m,some (.ref a),none] s1).W fun fl s'=> (jn fl s').W (KnQ s n (c+1)):=by
 unfold knC
 walk_at "go"
 refine R.W_mono (j8 fd (by decide) (by decide) (by lia)) ?_
 rintro _ s2 ⟨i,rfl,h0,h1,fd2,sm2⟩
 walk_at "go"
 rw [za]
 obtain⟨o,j,po,e1,e2⟩:=a9d (decide (i=0))
 walk_at "go"
 rw [e1]
 walk_at "go"
 rw [e2]
 have ha2:s2[a]?=some (.lst ((qs.map aF).map D.da)):=by rw [sm2.get _ hna (aE.mp ha).1];exact ha
 walk_at "go"
 rw [af9 ha2]
 walk_at "go"
 try rw [af9 ha2]
 try walk_at "go"
 have up: ∀{d:ag},Sm 0 9 d -> Sm 1 9 d:=fun h=> h.mono (by decide) (au _)
 have sq:=aaj hq hl (by decide)
 refine⟨_,rfl,rfl,?_,fd2,sm.trans sm2⟩
 intro x hx
 (simp only [aw,bc,or_false]at hx)
 rcases hx with rfl|rfl|rfl|rfl
 ·exact⟨(vx (up (vt (by simp))) (up (vo po)) sq).mono (by decide) (by decide),_,rfl⟩
 ·exact⟨(vx (up (vt (by simp))) sq (up (vo po))).mono (by decide) (by decide),_,rfl⟩
 ·exact⟨(vx (up (vt (by simp))) (up (vo po)) ai4).mono (by decide) (by decide),_,rfl⟩
 ·exact⟨(vx (up (vt (by simp))) ai4 (up (vo po))).mono (by decide) (by decide),_,rfl⟩
theorem a9i:B_law_knots=(jf (jw 1 (fOp (jo false) (fC (.da (.int 11))) (jd 2 jg (ja (jb 0) (ja (fC (.da (.int 3))) jc)))))
  (jf (jw 2 (fLc true [] 1 (ac5 (ja (jb 1) jc)) (.nm 0) acd (fOp (jo false) (fC (.da (.str "p"))) (fOp gIx (fC (.da (.str "abcdefghijklmnop"))) (jb 0)))))
  (jf (jp (ji (fOp gEq (jd 2 jg (ja (jb 0) (ja (fC (.da (.int 4))) jc))) (fC (.da (.int 0))))) (abd (fC (.da (.str "pa"))) (jb 2) (jd 2 jg (ja (jb 0) (ja (jb 1) jc)))) jl)
  knC))):=rfl
theorem ayg(h:Fd s n c)(hc:c+10 < 2^40):(ab6 [.ref n] s).W (KnQ s n (c+4)):=by
 have hn:=h.lt
 rw [aoc,a9i]
 walk_at "go"
 refine R.W_mono (j8 h (by decide) (by decide) (by lia)) ?_
 rintro _ s1 ⟨i,rfl,h0,h1,fd1,sm1⟩
 obtain⟨m,rfl⟩:=ab4 i (by assumption)
 walk_at "go"
 rw [ade (by lia) (by lia)]
 rw [show ((11:Int)+(m:Int)).toNat=11+m by lia]
 walk_at "go"
 rw [zh (ρ0:=[none]) (by rw [qv];lia) rfl]
 rw [show k9 (.nm 0) acd (fOp (jo false) (fC (.da (.str "p"))) (fOp gIx (fC (.da (.str "abcdefghijklmnop"))) (jb 0))) [none] (yg 0 (11+m),none) (yg 0 (11+m)) s1=.ok (((bn (11+m)).map fun k=> aF (kn k)).map D.da) s1 by
  have:=adn (g:=.nm 0) (ft:=acd) (fe:=fOp (jo false) (fC (.da (.str "p"))) (fOp gIx (fC (.da (.str "abcdefghijklmnop"))) (jb 0))) (ρ0:=[none]) (all:=yg 0 (11+m)) (s:=s1) (fun k:Nat=> D.int (k:Int)) (fun _=> true) (fun k=> aF (kn k)) (bn (11+m)) (fun k hk=> by
   have hk:=eF.mp hk
   obtain⟨_,ch,e1,e2⟩:=auo k (by lia)
   refine⟨[some (.int (k:Int))],rfl,rfl,fun _=> ?_⟩
   walk_at "ev"
   rw [ai9 (by decide+kernel) e1]
   walk_at "ev"
   rw [ahe (by rw [show (bg "p").length=1 by decide+kernel];show 1+1 <=16777216;decide)]
   rw [e2])
  rw [←a2x,dN.mpr (fun _ _=> rfl)]at this
  exact this]
 walk_at "go"
 have x1:=Ext.add s1 [O.lst (((bn (11+m)).map fun k=> aF (kn k)).map D.da)]
 have hq: ∀x∈(bn (11+m)).map kn,prB x=true:=fun x hx=> by
  obtain⟨k,hk,rfl⟩:=bB.mp hx
  exact (auo k (by have:=eF.mp hk;lia)).1
 have es:((bn (11+m)).map fun k=> aF (kn k))=((bn (11+m)).map kn).map aF:=by rw [cu];rfl
 have hl:((bn (11+m)).map kn).length=11+m:=by simp
 rw [es]at x1⊢
 generalize (bn (11+m)).map kn=qs at x1 hq hl⊢
 have hn1:n < s1.length:=fd1.lt
 have ha:(s1++ [O.lst ((qs.map aF).map D.da)])[s1.length]?=some (.lst ((qs.map aF).map D.da)):=by simp
 have hal:s1.length < (s1++ [O.lst ((qs.map aF).map D.da)]).length:=by simp
 generalize hS:s1++ [O.lst ((qs.map aF).map D.da)]=S1 at x1 ha hal⊢
 refine R.W_mono (j8 (fd1.ext x1) (by decide) (by decide) (by lia)) ?_
 rintro _ s2 ⟨i,rfl,i0,i1,fd2,sm2⟩
 have ha2:s2[s1.length]?=some (.lst ((qs.map aF).map D.da)):=by rw [sm2.get _ (by lia) hal];exact ha
 walk_at "go"
 rw [za]
 by_cases hi:i=0
 ·rw [decide_eq_true hi]
  walk_at "go"
  refine R.W_mono (j8 fd2 (by lia) (by lia) (by lia)) ?_
  rintro _ s3 ⟨j,rfl,j0,j1,fd3,sm3⟩
  obtain⟨t,rfl⟩:=ab4 j (by assumption)
  have ha3:s3[s1.length]?=some (.lst ((qs.map aF).map D.da)):=by rw [sm3.get _ (by lia) (aE.mp ha2).1];exact ha2
  walk_at "go"
  rw [am1 ha3 (by simp;lia)]
  walk_at "go"
  have hl3:=(aE.mp ha3).1
  refine R.W_mono (auh (s:=s) (c:=c+3) (a:=s1.length) (qs:=qs.set t "pa") (fd3.set (by lia)) ((((sm1.trans (x1.same n)).trans sm2).trans sm3).own (aH sm1.len (au _))) ?_ (by lia) ?_ (by rw [List.length_set];lia) (by lia)) fun fl s4 q=> q
  ·rw [bN hl3,List.map_set,List.map_set]
  ·intro x hx
   rcases List.mem_or_eq_of_mem_set hx with z|z
   ·exact hq x z
   ·rw [z];decide+kernel
 ·rw [decide_eq_false hi]
  walk_at "go"
  refine R.W_mono (auh (s:=s) (c:=c+3) (a:=s1.length) (qs:=qs) (fd2.le (by lia)) ((sm1.trans (x1.same n)).trans sm2) ha2 (by lia) hq (by lia) (by lia)) fun fl s4 q=> q
theorem azn: ∀k:Nat,k <=4 -> dr k <=3200/\bb k <=41600:=by decide
structure PtX (x:ag):Prop where
 sm:Sm 15 42000 x
 tp: ∃ds,x=.tuple ds
theorem avw:Sm 1 12 (.tuple [.str "drain",.str "a",.str "b"]):=by
 have h: ∀x∈(["drain","a","b"]:List Str),asc x=true/\x.cps.size <=5:=by decide+kernel
 have p: ∀x∈(["drain","a","b"]:List Str),Lf 0 (.str x):=fun x hx=>.str (h x hx).1 (by have:=(h x hx).2;show x.cps.size <=40*1;lia)
 refine⟨.tup (by simp) (by simp [vz]) (ajp (p _ (by simp)) (p _ (by simp)) (p _ (by simp))),by simp [aJ,aN],?_⟩
 have b:bt (.tuple [.str "drain",.str "a",.str "b"])=10:=by decide+kernel
 lia
theorem avu(hm:1 <=m)(hm3:m <=3)(hk:k <=125):PtX (.tuple [.str "net",.tuple [.int m,.tuple [],.tuple (aC k (.tuple [.str "drain",.str "a",.str "b"]))],.tuple []]):=by
 have g:Sm 2 1700 (.tuple (aC k (.tuple [.str "drain",.str "a",.str "b"]))):=by
  have h: ∀x∈aC k (bR [.str "drain",.str "a",.str "b"]),Sm 1 12 x:=fun x hx=> by rw [kJ hx];exact avw
  refine⟨.tup (by rw [fz];lia) ?_ fun x hx=> (h x hx).lf,?_,?_⟩
  ·rw [List.filter_eq_nil_iff.mpr fun x hx=> by rw [kJ hx];simp [vz]]
   simp
  ·simp only [aJ]
   have:=yt fun x hx=> (h x hx).dp
   lia
  ·simp only [bt]
   have:=ahj fun x hx=> (h x hx).bk
   rw [fz]at this
   lia
 have n1:Sm 2 130 (.tuple []):=ai4.mono (by decide) (by decide)
 have a:=vx (D:=2) ((ace (i:=m) (by lia)).mono (by decide) (au _)) n1 g
 exact⟨(vx (D:=3) ((vt (x:="net") (by simp)).mono (by decide) (au _)) a (n1.mono (by decide) (au _))).mono (by decide) (by decide),_,rfl⟩
theorem a0y(hm:1 <=m)(hm3:m <=3):PtX (.tuple [.str "net",.tuple [.int m,.tuple [],.tuple []],.tuple []]):=by
 have n1:Sm 2 130 (.tuple []):=ai4.mono (by decide) (by decide)
 have a:=vx (D:=2) ((ace (i:=m) (by lia)).mono (by decide) (au _)) n1 n1
 exact⟨(vx (D:=3) ((vt (x:="net") (by simp)).mono (by decide) (au _)) a (n1.mono (by decide) (au _))).mono (by decide) (by decide),_,rfl⟩
theorem asx{N:ag}(hN:Sm (3*k+2) (bb k) N)(hk:k <=4)(hq: ∀x∈qs,prB x=true)(hl:qs.length <=3):PtX (.tuple [.str "net",N,.tuple (qs.map aF)]):=by
 have:=(azn k hk).2
 exact⟨(vx (D:=14) (B:=41600) ((vt (x:="net") (by simp)).mono (by decide) (au _)) (hN.mono (by lia) this) ((aaj hq hl (by decide)).mono (by decide) (au _))).mono (by decide) (by decide),_,rfl⟩
theorem ayu(h:PartD m ps d qs): ∃ds,d=.tuple ds:=by cases h <;> exact⟨_,rfl⟩
structure FoJ (s:S) (n c:Nat) (r acc:List D) (s':S):Prop where
 ex: ∃(L:List ag) (c':Nat),acc=L.map D.da/\(∀x∈L,PtX x)/\L.length+r.length=4/\Fd s' n c'/\c'+13*r.length <=c+52/\kc n s s'
structure PaQ (s:S) (n c:Nat) (d:D) (s':S):Prop where
 ex: ∃L:List ag,d=.lst L/\L.length=12/\(∀x∈L,PtX x)/\Fd s' n c/\kc n s s'
theorem aww(h:Fd s n c)(hm:1 <=m)(hm3:m <=3)(hc:c+10000 < 2^40):(zf [.ref n,.int m] s).W (PaQ s n (c+4000)):=by
 rw [aoe];unfold B_law_parts
 walk_at "go"
 refine R.W_mono (j8 h (by decide) (by decide) (by lia)) ?_
 rintro _ s1 ⟨i,rfl,h0,h1,fd1,sm1⟩
 obtain⟨w,rfl⟩:=ab4 i (by assumption)
 walk_at "go"
 rw [show ((2:Int)+(w:Int))=((2+w:Nat):Int) by lia]
 refine R.W_mono (amx fd1 (by lia) (by lia)) ?_
 rintro _ s2 ⟨ps,rfl,pl,nd,pr,fd2,sm2⟩
 walk_at "go"
 rw [ade (by decide) (by decide),show ((4:Int)).toNat=4 from rfl]
 walk_at "go"
 rw [zh (ρ0:=[none,some (.ref n),some (.int m),some (.lst (ps.map aF))]) (by rw [qv];lia) rfl,R.W_bindk]
 refine R.W_mono (ae5 (Q:=fun xs s'=> ∃L:List ag,xs=L.map D.da/\(∀x∈L,PtX x)/\L.length=4/\Fd s' n (c+60)/\kc n s s') (FoJ s n (c+3)) ?_ ?_ _ [] s2 ⟨[],c+3,rfl,(fun _ h=> by cases h),by rw [qv];rfl,fd2,by rw [qv];lia,sm1.trans sm2⟩) ?_
 ·rintro d' r acc s' ⟨L,c',rfl,hL,hlen,fd,hcc,sm'⟩
  simp only [aQ]at hlen hcc
  refine⟨[some d',some (.ref n),some (.int m),some (.lst (ps.map aF))],rfl,?_⟩
  walk_at "go"
  refine R.W_mono (apn fd hm hm3 (by lia) (by lia) nd (by lia)) ?_
  rintro _ s3 ⟨d,qs,rfl,hd,fd3,sm3⟩
  refine⟨L++ [d],c'+ps.length+5,by simp,?_,by simp;lia,fd3,by lia,sm'.trans sm3⟩
  intro z hz
  rcases bI.mp hz with q|q
  ·exact hL z q
  ·rw [bd.mp q];exact⟨(aoy hd hm3 pr).mono (by decide) (by decide),ayu hd⟩
 ·rintro acc s' ⟨L,c',rfl,hL,hlen,fd,hcc,sm'⟩
  exact⟨L,rfl,hL,by simpa using hlen,fd.le (by simp at hcc;lia),sm'⟩
 ·rintro xs s3 ⟨L,e,hL,hlen,fd3,sm3⟩
  rw [cV]at e
  subst e
  walk_at "go"
  refine R.W_mono (ayg fd3 (by lia)) ?_
  rintro _ s4 ⟨L2,rfl,hl2,hL2,fd4,sm4⟩
  walk_at "go"
  rw [aau (by lia)]
  walk_at "go"
  refine R.W_mono (aga fd4 (by rw [ao];lia) (by rw [ao];lia)) ?_
  rintro _ s5 ⟨ys,rfl,pm,fd5,sm5⟩
  obtain⟨qs,pmq,rfl⟩:=aec pm
  have ql:=pmq.length_eq
  rw [ao]at fd5
  walk_at "go"
  refine R.W_mono (j8 fd5 (by split <;> lia) (by split <;> lia) (by lia)) ?_
  rintro _ s6 ⟨i,rfl,i0,i1,fd6,sm6⟩
  obtain⟨u,rfl⟩:=ab4 i (by assumption)
  have u3:u <=3:=by split at i1 <;> lia
  walk_at "go"
  refine R.W_mono (j8 fd6 (by decide) (by decide) (by lia)) ?_
  rintro _ s7 ⟨i,rfl,j0,j1,fd7,sm7⟩
  obtain⟨k,rfl⟩:=ab4 i (by assumption)
  walk_at "go"
  refine R.W_mono (j8 fd7 (by decide) (by decide) (by lia)) ?_
  rintro _ s8 ⟨j,rfl,k0,k1,fd8,sm8⟩
  walk_at "go"
  rw [zp,aac,ao]
  have tl:(qs.take u).length <=3:=by rw [bX];lia
  have dk:=azn (k+1) (by lia)
  rw [show ((1:Int)+(k:Int))=((k+1:Nat):Int) by lia]
  refine (aqa k 8 (by lia) s8 n (c+60+4+ps.length+1+1+1) (1+j) (qs.take u).length (fd8.le (by lia)) (by lia) (by lia) tl (by lia)).mono ?_
  rintro _ s9 ⟨N,rfl,hN,fd9,sm9⟩
  walk_at "go"
  refine R.W_mono (j8 fd9 (by decide) (by decide) (by lia)) ?_
  rintro _ s10 ⟨i,rfl,l0,l1,fd10,sm10⟩
  obtain⟨v,rfl⟩:=ab4 i (by assumption)
  walk_at "go"
  rw [show∀s:S,alo false (.tup [.tuple [.str "drain",.str "a",.str "b"]]) (.int (119+(v:Int))) s=.ok (.tup (aC (119+v) (.tuple [.str "drain",.str "a",.str "b"]))) s from fun s=> by
   show (if -1000 < (119+(v:Int))/\(119+(v:Int)) < 1000/\ [bR [.str "drain",.str "a",.str "b"]].length < 1000/\ [bR [.str "drain",.str "a",.str "b"]]≠ [] then R.ok (D.tup (aC (119+(v:Int)).toNat [bR [.str "drain",.str "a",.str "b"]]).flatten) s else .bad)=_
   rw [if_pos ⟨by lia,by lia,by simp,by simp⟩,show (119+(v:Int)).toNat=119+v by lia,List.flatten_replicate_singleton]]
  walk_at "go"
  rw [aau (by simp;lia)]
  walk_at "go"
  try rw [aau (by simp;lia)]
  try walk_at "go"
  refine⟨_,rfl,by simp [hlen,hl2],?_,fd10.le (by lia),((((((sm3.trans sm4).trans sm5).trans sm6).trans sm7).trans sm8).trans sm9).trans sm10⟩
  intro x hx
  have hx:x∈L\/x∈L2\/x=.tuple [.str "net",N,.tuple ((qs.take u).map aF)]\/x=.tuple [.str "net",N,.tuple [.str "a"]]\/x=.tuple [.str "net",.tuple [.int m,.tuple [],.tuple (aC (119+v) (.tuple [.str "drain",.str "a",.str "b"]))],.tuple []]\/x=.tuple [.str "net",.tuple [.int m,.tuple [],.tuple []],.tuple []]:=by
   simpa only [bI,aw,bc,or_false,or_assoc] using hx
  rcases hx with z|z|rfl|rfl|rfl|rfl
  ·exact hL x z
  ·exact⟨(hL2 x z).1.mono (by decide) (by decide),(hL2 x z).2⟩
  ·exact asx hN (by lia) (ag0 pmq u pr) tl
  ·exact asx (qs:=["a"]) hN (by lia) (by decide+kernel) (by decide)
  ·exact avu hm hm3 (by lia)
  ·exact a0y hm hm3
theorem a0g(ns:List Int):(aa9 [.frz (ns.map aD)] []).W fun d s'=> d=.ref 0/\Fd s' 0 0:=by
 rw [ar1];unfold B_law_feed
 walk_at "go"
 refine⟨trivial,ns.take 63,0,0,0,?_,by simp;lia,by decide,by decide,by decide⟩
 rw [zp,show (63:Int)=((63:Nat):Int) from rfl,aac]
 rfl
noncomputable def aiy:List ag:=[.str "",.str "a",.str "abcdefgh",.str "abcdefghi",.str "A",.str "a1",.str "a b",.str "z",.str "net",.none,.bool true,.int 3,.list [],.tuple [.str "a"],.str "a\n",.str "-"]++ [.tuple [.str "both",.str "a",.str "b",.str "c"],.tuple [.str "both"],.tuple [.str "only",.str "a",.str "b",.tuple [.int 0,.int 0]],.tuple [.str "place",.str "a",.str "b",.bool true]]
theorem auy: ∀x∈(["","a","b","c","abcdefgh","abcdefghi","A","a1","a b","z","net","a\n","-","both","only","place"]:List Str),asc x=true/\x.cps.size <=9:=by decide+kernel
theorem j9{x:Str}(h:x∈(["","a","b","c","abcdefgh","abcdefghi","A","a1","a b","z","net","a\n","-","both","only","place"]:List Str)):Sm 1 30 (.str x):=by
 obtain⟨a,b⟩:=auy x h
 exact (ao1 a b).mono (by decide) (by decide)
theorem aov(b:Bool):Sm 1 30 (.bool b):=⟨.bool b,by simp [aJ],by simp [bt]⟩
theorem a0b:Sm 1 30 .none:=⟨.none,by simp [aJ],by simp [bt]⟩
theorem axu: ∀x∈aiy,Sm 2 200 x:=by
 intro x hx
 simp only [aiy,cK,cV,aw,bc,or_false]at hx
 have up: ∀{d:ag},Sm 1 30 d -> Sm 2 200 d:=fun h=> h.mono (by decide) (by decide)
 have t4: ∀{a b c d:ag},Sm 1 30 a -> Sm 1 30 b -> Sm 1 30 c -> Sm 1 30 d -> Sm 2 200 (.tuple [a,b,c,d]):=fun ha hb hc hd=> (ym (k:=4) (as6 ha hb hc hd) (by simp) (by decide)).mono (by decide) (by decide)
 have t1: ∀{a:ag},Sm 1 30 a -> Sm 2 200 (.tuple [a]):=fun ha=> (ym (k:=1) (fun x hx=> by rw [bd.mp hx];exact ha) (by simp) (by decide)).mono (by decide) (by decide)
 rcases hx with rfl|rfl|rfl|rfl|rfl|rfl|rfl|rfl|rfl|rfl|rfl|rfl|rfl|rfl|rfl|rfl|rfl|rfl|rfl|rfl
 ·exact up (j9 (by simp))
 ·exact up (j9 (by simp))
 ·exact up (j9 (by simp))
 ·exact up (j9 (by simp))
 ·exact up (j9 (by simp))
 ·exact up (j9 (by simp))
 ·exact up (j9 (by simp))
 ·exact up (j9 (by simp))
 ·exact up (j9 (by simp))
 ·exact up a0b
 ·exact up (aov _)
 ·exact (ace (by decide)).mono (by decide) (by decide)
 ·exact⟨.lst (by simp) (fun x h=> by cases h),by simp [aJ,aN],by simp [bt,aO]⟩
 ·exact t1 (j9 (by simp))
 ·exact up (j9 (by simp))
 ·exact up (j9 (by simp))
 ·exact t4 (j9 (by simp)) (j9 (by simp)) (j9 (by simp)) (j9 (by simp))
 ·exact t1 (j9 (by simp))
 ·refine t4 (j9 (by simp)) (j9 (by simp)) (j9 (by simp)) ?_
  exact (ym (D:=0) (B:=9) (k:=2) (fun x hx=> by
   simp only [aw,bc,or_false,or_self]at hx
   rw [hx];exact ace (by decide)) (by simp) (by decide)).mono (by decide) (by decide)
 ·exact t4 (j9 (by simp)) (j9 (by simp)) (j9 (by simp)) (aov _)
theorem Sm.gd{D B:Nat}(h:Sm D B d)(h1:D <=60)(h2:B <=200000):Gd d:=⟨h.lf.mono (by decide),aH h.dp h1,aH h.bk h2⟩
def lwA:FS:=(jp (jv (j2 (jd 2 xc (ja (fC (.da (.int 2))) (ja (jb 3) jc))))) (jh (fC (.da (.bool false)))) jl)
structure LaJ (A0:Option D) (L2:D) (r:List D) (ρ:En) (s:S):Prop where
 ex: ∃(ds:List ag) (u:Option D),r=ds.map D.da/\(∀x∈ds,Gd x)/\ρ=[A0,some (.ref 0),some L2,u,none,none,none]/\Fd s 0 0
theorem a2d{L2:D}{d:D}{Q:Fl -> S -> Prop}(J:LaJ A0 L2 (d::r) ρ s): ∃ρ1,vy (.nm 3) d ρ=some ρ1/\(lwA ρ1 s).W (flW (LaJ A0 L2 r) Q):=by
 obtain⟨ds,u,er,hd,rfl,fd⟩:=J
 cases ds with
 |nil=> cases er
 |cons x ds=>
  rw [aP,eW]at er
  obtain⟨rfl,rfl⟩:=er
  refine⟨[A0,some (.ref 0),some L2,some (.da x),none,none,none],rfl,?_⟩
  obtain⟨s',e,ex⟩:=am6 (m:=2) (s:=s) (hd x aB)
  unfold lwA
  walk_at "go"
  rw [show (D.da (.int 2))=.int 2 from rfl,e]
  walk_at "go"
  exact⟨ds,_,rfl,fun y hy=> hd y (az _ hy),rfl,fd.ext ex⟩
def lwB:FS:=(jp (jv (j2 (jd 2 xc (ja (jb 4) (ja (jb 3) jc))))) (jh (fC (.da (.bool false)))) jl)
structure LbJ (A0:Option D) (L2:D) (m:Int) (c:Nat) (p b:D) (r:List D) (ρ:En) (s:S):Prop where
 ex: ∃(ds:List ag) (u:Option D),r=ds.map D.da/\(∀x∈ds,Gd x)/\ρ=[A0,some (.ref 0),some L2,u,some (.int m),some p,some b]/\Fd s 0 c
theorem a0j{L2:D}{p b:D}{d:D}{Q:Fl -> S -> Prop}(J:LbJ A0 L2 m c p b (d::r) ρ s): ∃ρ1,vy (.nm 3) d ρ=some ρ1/\(lwB ρ1 s).W (flW (LbJ A0 L2 m c p b r) Q):=by
 obtain⟨ds,u,er,hd,rfl,fd⟩:=J
 cases ds with
 |nil=> cases er
 |cons x ds=>
  rw [aP,eW]at er
  obtain⟨rfl,rfl⟩:=er
  refine⟨[A0,some (.ref 0),some L2,some (.da x),some (.int m),some p,some b],rfl,?_⟩
  obtain⟨s',e,ex⟩:=am6 (m:=m) (s:=s) (hd x aB)
  unfold lwB
  walk_at "go"
  rw [e]
  walk_at "go"
  exact⟨ds,_,rfl,fun y hy=> hd y (az _ hy),rfl,fd.ext ex⟩
def lwC:FS:=(jf (jw 6 (jd 2 (jq 24) (ja (jb 1) (ja (jb 5) jc))))
  (zq (fIt (fOp (jo false) (kv false (ja (jb 5) (ja (jb 6) (ja (jd 2 (jq 24) (ja (jb 1) (ja (jb 6) jc))) (ja (jd 2 (jq 24) (ja (jb 1) (ja (jb 5) jc))) jc))))) (fCB (aae false) (ja (fSl false (jb 5) (kh (fC (.da (.int 1)))) (kh (fC (.da (.int 2))))) jc)))) (.nm 3) lwB))
structure LcJ (A0:Option D) (L2:D) (m:Int) (r:List D) (ρ:En) (s:S):Prop where
 ex: ∃(ds:List ag) (c:Nat) (u v w:Option D),r=ds.map D.da/\(∀x∈ds,PtX x)/\ρ=[A0,some (.ref 0),some L2,u,some (.int m),v,w]/\Fd s 0 c/\c+1000*r.length <=20000
theorem BentK.gd{B dp:Nat}(h:BentK n B dp d)(hn:n <=2)(h1:dp <=40)(h2:2*B+60 <=200000):Gd d:=⟨h.lf.mono (by lia),aH h.dp (by lia),aH h.bk h2⟩
theorem a0p{L2:D}{d:D}{Q:Fl -> S -> Prop}(J:LcJ A0 L2 m (d::r) ρ s): ∃ρ1,vy (.nm 5) d ρ=some ρ1/\(lwC ρ1 s).W (flW (LcJ A0 L2 m r) Q):=by
 obtain⟨ds,c,u,v,w,er,hd,rfl,fd,hc⟩:=J
 cases ds with
 |nil=> cases er
 | cons x ds=>
  rw [aP,eW]at er
  obtain⟨rfl,rfl⟩:=er
  simp only [aQ]at hc
  have hx:=hd x aB
  have hp:=hx.sm.dp
  obtain⟨es,rfl⟩:=hx.tp
  refine⟨[A0,some (.ref 0),some L2,u,some (.int m),some (.da (.tuple es)),w],rfl,?_⟩
  unfold lwC
  walk_at "go"
  refine R.W_mono (ag2 24 fd hx.sm.lf hx.sm.bk (by lia) (by decide) (by decide) (by lia)) ?_
  rintro _ s1 ⟨b,rfl,kb,fd1,sm1⟩
  walk_at "go"
  refine R.W_mono (ag2 24 fd1 kb.lf kb.bk (by have:=kb.dp;lia) (by decide) (by decide) (by lia)) ?_
  rintro _ s2 ⟨b2,rfl,kb2,fd2,sm2⟩
  walk_at "go"
  refine R.W_mono (ag2 24 fd2 hx.sm.lf hx.sm.bk (by lia) (by decide) (by decide) (by lia)) ?_
  rintro _ s3 ⟨b3,rfl,kb3,fd3,sm3⟩
  walk_at "go"
  have g0:=hx.sm.gd (by decide) (by decide)
  have c12:(qh es (some (1:Int)) (some (2:Int))).length <=es.length/\ ∀y∈qh es (some (1:Int)) (some (2:Int)),y∈es:=by
   rw [show (some (1:Int))=some ((1:Nat):Int) from rfl,show (some (2:Int))=some ((2:Nat):Int) from rfl,ak3]
   exact⟨by rw [bX,eI];lia,fun y hy=> cN (cx hy)⟩
  generalize qh es (some (1:Int)) (some (2:Int))=zs at c12⊢
  have hl:=g0.len.1
  rw [aau (by simp;lia)]
  walk_at "go"
  have kd:=kb.dp
  refine zw (LbJ A0 L2 m (c+8*24+8*24+8*24) (.da (.tuple es)) (.da b)) (fun d r ρ s J=> a0j J) ?_ _ _ _ ⟨[.tuple es,b,b2,b3]++zs,_,rfl,?_,rfl,fd3⟩
  ·rintro ρ s4 ⟨ds',u',_,_,rfl,fd4⟩
   exact⟨ds,_,_,_,_,rfl,fun y hy=> hd y (az _ hy),rfl,fd4,by lia⟩
  ·intro y hy
   rcases bI.mp hy with z|z
   ·exact as6 (P:=Gd) g0 (kb.gd (by decide) (by lia) (by decide)) (kb2.gd (by decide) (by lia) (by decide)) (kb3.gd (by decide) (by lia) (by decide)) y z
   ·exact g0.kid (c12.2 y z)
theorem axa(ns:List Int):(avp [.frz (ns.map aD)] []).W fun d _=> d=.bl true:=by
 rw [a90,show Blaw=(jf (jw 1 (jd 1 aa9 (ja (jb 0) jc)))
  (jf (jw 2 (kv false (ja (fC (.da (.str ""))) (ja (fC (.da (.str "a"))) (ja (fC (.da (.str "abcdefgh"))) (ja (fC (.da (.str "abcdefghi"))) (ja (fC (.da (.str "A"))) (ja (fC (.da (.str "a1"))) (ja (fC (.da (.str "a b"))) (ja (fC (.da (.str "z"))) (ja (fC (.da (.str "net"))) (ja (fC (.da (.none))) (ja (fC (.da (.bool true))) (ja (fC (.da (.int 3))) (ja (kv false jc) (ja (jj (ja (fC (.da (.str "a"))) jc)) (ja (fC (.da (.str "a\n"))) (ja (fC (.da (.str "-"))) jc))))))))))))))))))
  (jf (zq (fIt (fOp (jo false) (jb 2) (kv false (ja (jj (fVs (bM D.da [.str "both",.str "a",.str "b",.str "c"]))) (ja (jj (ja (fC (.da (.str "both"))) jc)) (ja (jj (ja (fC (.da (.str "only"))) (ja (fC (.da (.str "a"))) (ja (fC (.da (.str "b"))) (ja (jj (fVs (bM D.da [.int 0,.int 0]))) jc))))) (ja (jj (fVs (bM D.da [.str "place",.str "a",.str "b",.bool true]))) jc))))))) (.nm 3) lwA)
  (jf (jw 4 (fOp (jo false) (fC (.da (.int 1))) (jd 2 jg (ja (jb 1) (ja (fC (.da (.int 3))) jc)))))
  (jf (zq (fIt (jd 2 zf (ja (jb 1) (ja (jb 4) jc)))) (.nm 5) lwC)
  (jh (fC (.da (.bool true))))))))) from rfl]
 walk_at "go"
 refine R.W_mono (a0g ns) fun d s1 q=> ?_
 obtain⟨rfl,fd⟩:=q
 walk_at "go"
 rw [show∀s:S,aao false [.da (.str ""),.da (.str "a"),.da (.str "abcdefgh"),.da (.str "abcdefghi"),.da (.str "A"),.da (.str "a1"),.da (.str "a b"),.da (.str "z"),.da (.str "net"),.da .none,.da (.bool true),.da (.int 3),.lst [],.tup [.str "a"],.da (.str "a\n"),.da (.str "-")] s=.ok (.lst (aiy.take 16)) s from fun s=> rfl]
 walk_at "go"
 rw [aau (by decide)]
 walk_at "go"
 generalize (D.lst (aiy.take 16))=L2
 refine zw (LaJ (some (.frz (ns.map aD))) L2) (fun d r ρ s J=> a2d J) ?_ _ _ _ ⟨aiy,_,rfl,fun x hx=> (axu x hx).gd (by decide) (by decide),rfl,fd⟩
 rintro ρ s2 ⟨ds,u,_,_,rfl,fd2⟩
 walk_at "go"
 refine R.W_mono (j8 fd2 (by decide) (by decide) (by decide)) ?_
 rintro _ s3 ⟨i,rfl,i0,i1,fd3,sm3⟩
 walk_at "go"
 refine R.W_mono (aww (m:=1+i) fd3 (by lia) (by lia) (by decide)) ?_
 rintro _ s4 ⟨L,rfl,hl,hL,fd4,sm4⟩
 walk_at "go"
 refine zw (LcJ (some (.frz (ns.map aD))) L2 (1+i)) (fun d r ρ s J=> a0p J) ?_ _ _ _ ⟨L,_,_,_,_,rfl,hL,rfl,fd4,by rw [ao];lia⟩
 rintro ρ s5 ⟨ds,c,u,v,w,_,_,rfl,_,_⟩
 walk_at "go"
end Ln
namespace PF
open PySem PySem.Spec
open L2 EX
structure XC (K:am) (C:Str) (Ca f:Addr) (bm:List af) (fl:List Str):Prop where
 at_:bA K aV C=some (some (.ref Ca))
 lk: ∃nm q N bs sn sub ab col dd k0 k1 k2 k3 k5,K.lookup Ca=some (fk nm q Ca N bs bm true sn sub ab col dd k0 k1 k2 k3 k5 "ValueError.__new__")
 cl:ClsX K Ca
 mkx:MkX K Ca f
 cm:ClsM K Ca "__init__" f
 na: ∀g∈fl,aa8 K Ca g
inductive XCs (K:am) (bm:List af) (fl:List Str):List (Str×Addr) -> Prop
 |nil:XCs K bm fl []
 |cons {C:Str} {Ca f:Addr} {l:List (Str×Addr)}:XC K C Ca f bm fl -> XCs K bm fl l -> XCs K bm fl ((C,Ca)::l)
section
variable{K:am}{mg:Str -> Option af}{b:Str}{M:Addr}{L:List (Str×Addr)}{fl:List Str}{bm:List af}
theorem XCs.mem(x:XCs K bm fl L): ∀{p:Str×Addr},p∈L -> ∃f,XC K p.1 p.2 f bm fl:=by
 induction x with
 |nil=> intro p hp;cases hp
 |cons a _ ih=>
  intro p hp
  rcases aw.mp hp with rfl|hp
  ·exact⟨_,a⟩
  ·exact ih hp
theorem XC.kit{D:Str}{f Da g:Addr}{bm':List af}(x:XC K C Ca f bm fl)(y:XC K D Da g bm' fl):cH K (.ref Ca) (.ref Da)=some ((Da==Ca)||bm.contains (.ref Da)):=by
 obtain⟨nm,q,N,bs,sn,sub,ab,col,dd,k0,k1,k2,k3,k5,e⟩:=x.lk
 obtain⟨nm',q',N',bs',sn',sub',ab',col',dd',l0,l1,l2,l3,l5,e'⟩:=y.lk
 unfold cH
 by_cases z:Ca=Da
 ·subst z
  rw [if_pos (by simp)]
  simp
 ·rw [if_neg (by simpa using z)]
  have h1:((eV K Da).isSome&&iK K (.ref Da)==some (.type "type"))=true:=by
   simp [eV,iK,e']
  have z':(Da==Ca)=false:=beq_eq_false_iff_ne.mpr (cW z)
  unfold iJ
  dsimp only
  rw [if_pos h1]
  simp only [jA,i6,eV,e,fO]
  rw [if_neg (by simp),z',cf]
  have:(aS Da==aS Ca)=false:=beq_eq_false_iff_ne.mpr fun q=> z (gU q).symm
  rw [this]
theorem XC.kitV{f:Addr}(x:XC K C Ca f bm fl)(av:Above bm):cH K (.ref Ca) (.type "ValueError")=some true:=by
 obtain⟨nm,q,N,bs,sn,sub,ab,col,dd,k0,k1,k2,k3,k5,e⟩:=x.lk
 unfold cH
 rw [if_neg (by simp)]
 have hk:PySem.W.kitMeta "ValueError"=true:=by decide+kernel
 simp only [iJ,hk,if_true,jA,i6,eV,e,fO]
 rw [if_neg (by simp),cf,av.has (T:="ValueError") (b:=true) (by decide+kernel),ii]
theorem avd: ∀{L:List (Str×Addr)},(L.map (·.2)).Nodup -> ∀p∈L,∀q∈L,p.2=q.2 -> p=q
 |[],_,p,hp,_,_,_=> by cases hp
 |a::r,nd,p,hp,q,hq,e=> by
  rw [aP,dX]at nd
  rcases aw.mp hp with h1|h1 <;> rcases aw.mp hq with h2|h2
  ·rw [h1,h2]
  ·subst h1;exact absurd (bB.mpr ⟨q,h2,e.symm⟩) nd.1
  ·subst h2;exact absurd (bB.mpr ⟨p,h1,e⟩) nd.1
  ·exact avd nd.2 p h1 q h2 e
theorem a8k{fb:Addr}(G: ∀(C:Str) (Ca:Addr),bA K aV C=some (some (.ref Ca)) -> mg C=some (.ref Ca))(x0:XC K b M fb bmV fl)(x:XCs K (.ref M::bmV) fl L)(nd:(M::L.map (·.2)).Nodup):XT K mg b (L.map (·.1)) fl:=by
 have hv: ∀Da:Addr,bmV.contains (.ref Da)=false:=fun Da=> by simp
 obtain⟨nM,nd⟩:=dX.mp nd
 have inj:=avd nd
 refine⟨fun C hC=> ?_⟩
 rcases aw.mp hC with rfl|hC
 ·refine⟨M,x0.at_,G _ _ x0.at_,x0.cl,x0.na,x0.kitV .base,fun D hD Da hDa=> ?_⟩
  rcases aw.mp hD with rfl|hD
  ·have e:=x0.at_.symm.trans hDa;cases e
   rw [x0.kit x0,hv];simp
  ·obtain⟨q,hq,rfl⟩:=bB.mp hD
   obtain⟨g,y⟩:=x.mem hq
   have e:=y.at_.symm.trans hDa;cases e
   have ne:q.2≠M:=fun z=> nM (z▸bB.mpr ⟨q,hq,rfl⟩)
   have ne2:q.1≠C:=fun z=> by
    have:=y.at_
    rw [z,x0.at_]at this
    injection this with this;injection this with this
    exact ne (gU this).symm
   rw [x0.kit y,hv,beq_eq_false_iff_ne.mpr ne,beq_eq_false_iff_ne.mpr ne2]
 ·obtain⟨p,hp,rfl⟩:=bB.mp hC
  obtain⟨f,xp⟩:=x.mem hp
  have neM:p.2≠M:=fun z=> nM (z▸bB.mpr ⟨p,hp,rfl⟩)
  refine⟨p.2,xp.at_,G _ _ xp.at_,xp.cl,xp.na,xp.kitV (.own M .base),fun D hD Da hDa=> ?_⟩
  rcases aw.mp hD with rfl|hD
  ·have e:=x0.at_.symm.trans hDa;cases e
   rw [xp.kit x0];simp
  ·obtain⟨q,hq,rfl⟩:=bB.mp hD
   obtain⟨g,y⟩:=x.mem hq
   have e:=y.at_.symm.trans hDa;cases e
   have ne:q.2≠M:=fun z=> nM (z▸bB.mpr ⟨q,hq,rfl⟩)
   have ne2:q.1≠b:=fun z=> by
    have:=y.at_
    rw [z,x0.at_]at this
    injection this with this;injection this with this
    exact ne (gU this).symm
   rw [xp.kit y,cf,hv]
   by_cases z:q.2=p.2
   ·have:=inj q hq p hp z
    subst this
    simp
   ·have z2:q.1≠p.1:=fun w=> by
     have:=y.at_
     rw [w,xp.at_]at this
     injection this with this;injection this with this
     exact z (gU this).symm
    have e3:(aS q.2==aS M)=false:=beq_eq_false_iff_ne.mpr fun w=> ne (gU w)
    rw [e3,beq_eq_false_iff_ne.mpr z,beq_eq_false_iff_ne.mpr z2,beq_eq_false_iff_ne.mpr ne2];rfl
theorem aoo{f:Addr}{an:Option Addr}{oc kV dc pm cd ct:af}(G: ∀(C:Str) (Ca:Addr),bA K aV C=some (some (.ref Ca)) -> mg C=some (.ref Ca))(x:XC K C Ca f bm fl)(l:K.lookup f=some ⟨oc,od,.func (cZ "__init__" q (yf st) (ve st) (je st) .none kV dc pm an cd ct),sl⟩)(c:fA K cd q=true)(b: ∀(kV doc pm:af) (an:Option Addr) (cdv ct:af) (us:List af),us.length=ps.length -> bindArgs (cZ "__init__" q (yf st) (ve st) (je st) .none kV doc pm an cdv ct) ⟨us,[]⟩=pure (ps.zip us)):HasX K mg C q st ps:=
 ⟨Ca,f,_,x.at_,G _ _ x.at_,x.mkx,x.cm,afb (st:=st) l c x.cm.kp,(afb (st:=st) l c x.cm.kp).binds b⟩
end
end PF
namespace Ln
open PySem L2 PF
def BN(x q:Str)(st:Stmt)(ps:List Str)(us:List af):Prop:= ∀(kV doc pm:af) (an:Option Addr) (cdv ct:af),bindArgs (cZ x q (yf st) (ve st) (je st) .none kV doc pm an cdv ct) ⟨us,[]⟩=pure (ps.zip us)
theorem bd1{x:Str}{p0:Str}(h: ∀a0,BN x q st [p0] [a0]): ∀us,us.length=1 -> BN x q st [p0] us|[a0],_=> h a0
theorem bd2{x:Str}{p0 p1:Str}(h: ∀a0 a1,BN x q st [p0,p1] [a0,a1]): ∀us,us.length=2 -> BN x q st [p0,p1] us|[a0,a1],_=> h a0 a1
theorem bd3{x:Str}{p0 p1 p2:Str}(h: ∀a0 a1 a2,BN x q st [p0,p1,p2] [a0,a1,a2]): ∀us,us.length=3 -> BN x q st [p0,p1,p2] us|[a0,a1,a2],_=> h a0 a1 a2
theorem bd4{x:Str}{p0 p1 p2 p3:Str}(h: ∀a0 a1 a2 a3,BN x q st [p0,p1,p2,p3] [a0,a1,a2,a3]): ∀us,us.length=4 -> BN x q st [p0,p1,p2,p3] us|[a0,a1,a2,a3],_=> h a0 a1 a2 a3
theorem a5k(X:K.In h)(G:h.Ns aV mg){x:Str}{f:Addr}{an:Option Addr}{oc kV dc pm cd ct:af}(a:bA K aV x=some (some (.ref f)))(l:K.lookup f=some ⟨oc,od,.func (cZ x x (yf st) (ve st) (je st) .none kV dc pm an cd ct),sl⟩)(c:fA K cd x=true)(k:df K (.ref f)=true)(b: ∀us,us.length=ps.length -> BN x x st ps us):Has K mg x st ps:=
 ⟨f,_,afb (st:=st) l c k,cF X G a,(afb (st:=st) l c k).binds fun kV doc pm an cdv ct us hl=> b us hl kV doc pm an cdv ct⟩
theorem aug(X:K.In h)(G:h.Ns aV mg){x:Str}{g:Addr}{its:Array af}(a:bA K aV x=some (some (.ref g)))(l:K.lookup g=some ⟨.type "tuple",od,.seq its n,sl⟩)(hz:its.size <=1000)(hv:jm vs its.toList):ar8 K mg x vs:=
 ⟨g,cF X G a,fun H=>.inr ⟨_,its,n,l,rfl,rfl,gc (ats hz),hv⟩⟩
theorem aiz{f N:Addr}{bm bs sub:List af}{nm:Str}{sn:List Str}{ab:Bool}{col:Option Bool}{dd:Option Addr}{k0 k1 k2 k3 k5:Option af}(a:bA K aV C=some (some (.ref Ca)))(l:K.lookup Ca=some (fk nm q Ca N bs bm true sn sub ab col dd k0 k1 k2 k3 k5 "ValueError.__new__"))(av:EX.Above bm)(ga:cG K (.ref Ca) "__getattribute__"=some (some (.builtin "BaseException.__getattribute__")))(gt:cG K (.ref Ca) "__getattr__"=some none)(sa:cG K (.ref Ca) "__setattr__"=some (some (.builtin "object.__setattr__")))(ca:cG K (.ref Ca) "__class__"=some (some (.builtin "object.__class__")))(cg:fq K (.builtin "object.__class__") "__get__"=some (some (.builtin "getset_descriptor.__get__")))(ct:kR K (.builtin "object.__class__")=some true)(i:cG K (.ref Ca) "__init__"=some (some (.ref f)))(n:PySem.W.isFn K (.ref f)=true)(k:df K (.ref Ca)=true)(r:PySem.W.readsIn K Ca (.type "type")=true)(m:lg K (.ref Ca) (.type "type") "__init__"=some (.val (.ref f)))(sg:fq K (.ref Ca) "__getattribute__"=some (some (.builtin "type.__getattribute__")))(kf:df K (.ref f)=true)(na: ∀g∈fl,aa8 K Ca g):XC K C Ca f bm fl:=
 have cl:ClsX K Ca:=⟨⟨⟨nm,q,N,bs,bm,sn,sub,ab,col,dd,k0,k1,k2,k3,k5,l,av⟩,ga,gt,sa⟩,ca,cg,ct⟩
 ⟨a,⟨nm,q,N,bs,sn,sub,ab,col,dd,k0,k1,k2,k3,k5,l⟩,cl,⟨cl,i,n,k⟩,⟨r,m,sg,kf⟩,na⟩
theorem ag3: ∀f∈([]:List Str),aa8 K Ca f:=fun f h=> by cases h
theorem aeq{g:Str}(h:cG K (.ref Ca) g=some none)(t: ∀f∈fl,aa8 K Ca f): ∀f∈g::fl,aa8 K Ca f:=fun f hf=> by
 rcases aw.mp hf with rfl|hf
 ·exact h
 ·exact t f hf
theorem a5u{l:kS}{fa f:Addr}{an:Option Addr}{oc kV dc pm cd ct:af}(X:K.In h)(G:h.Ns aV mg)(hfa:mg "law"=some (.ref fa))(a:bA K aV "law"=some (some (.ref f)))(l0:K.lookup f=some ⟨oc,od,.func (cZ "law" "law" (yf ab8) (ve ab8) (je ab8) .none kV dc pm an cd ct),sl⟩)(c:fA K cd "law"=true)(k:df K (.ref f)=true)(T:Txt0 K mg):
  ∃fd:eH,(∀(s:ak) (v:af),lD s fd ⟨[v],[]⟩ [("_law_script",v)])/\ ∀base:Heap,K.In base -> base.Ns aV mg -> FnOk l.prog w K mg base CX0 27 fa fd ["_law_script"] (aid K):=by
 have e:=hfa.symm.trans (cF X G a)
 cases e
 exact⟨cZ "law" "law" (yf ab8) (ve ab8) (je ab8) .none kV dc pm an cd ct,fun s v=>.of_eq rfl,fun base _ _=> a3v (a7r (afb (st:=ab8) l0 c k) T) fun ns _=> axa ns⟩
theorem walk{l:kS}{q:aT}{loose:List Str}{XP:(Str -> Option af) -> Heap -> Prop}{YP:aX -> Heap -> Prop}{d:DefRec}{K:Params -> am}(hn:l.most=some 63)(hdf:d.params.defaults=[])
  (hY: ∀(w:aX) (h:Heap),YP w h -> (K w.params).In h)
  (F: ∀(w:aX) (mg:Str -> Option af) (fa:Addr) (h:Heap),(K w.params).In h -> h.Ns aV mg -> mg d.name=some (.ref fa) ->
   ∃fd:eH,(∀(s:ak) (u:af),lD s fd ⟨[u],[]⟩ [("_law_script",u)])/\ ∀base:Heap,(K w.params).In base -> base.Ns aV mg -> FnOk l.prog w (K w.params) mg base CX0 27 fa fd ["_law_script"] (aid (K w.params))):
  PySem.W.WalkO q loose XP YP l.row.toRowW d [] (fun f vs=> PySem.call f vs):=
 L2.a1x (n:=63) (k:=27) (x:="_law_script") (CX:=fun _=> CX0) (sp:=fun w=> aid (K w.params)) hn (by decide) hdf ⟨rfl,by decide,by decide,rfl⟩ hY F (fun _ _ a ns hl _ hS=> ⟨a,ns,rfl,hS,hl,fun _=> rfl⟩) fun _ _ _ _ _ z=> z
end Ln
open PySem PySem.W PyProof.Rows
local macro_rules | `(tactic| walk_at "hm") => do
 let X := bT `KX
 let G := bT `G
 `(tactic| refine Ln.a5k $X $G (by k_is) (by k_is) (by k_is) (by k_is) ?_)
namespace PySem.W.Fast
def tw4180286239653280389:=()
def tw15837146986643026835:=()
def tw14488394805676908578:=()
def tw5915111430310576494:=()
def tw1332986421076851527:=()
def tw5898704487705628574:=()
def tw3551419978668253150:=()
def tw17227502260788629683:=()
def tw15554706923846229413:=()
def tw12992125382642468581:=()
def tw2018696373123428496:=()
def tw2176870981169518661:=()
def tw14754948462564765625:=()
def tw3911891829636248829:=()
def tw13521277149927384671:=()
def tw5081650320545979163:=()
def tw10927984178655787968:=()
def tw9432360886197758826:=()
def tw3411754161359017465:=()
def tw3521752863900886499:=()
def tw15671697024851445056:=()
def tw11260553507409528864:=()
def tw7017391187273797012:=()
def tw7375718471772299578:=()
def tw1025672336758915771:=()
def tw5266836473185807433:=()
def tw9333823550853739940:=()
def tw15967403535446350309:=()
def tw2924495213275329083:=()
def tw10811958823825448601:=()
def tw15245971602613512160:=()
def tw1661410511266202846:=()
def tw17735630958889782058:=()
def tw11154769327926575114:=()
def tw13787379452285903982:=()
def tw875639717124375624:=()
def tw13749353771281270672:=()
def tw13005956094354485211:=()
def tw9305650762543757503:=()
def tw11448477120299395399:=()
def tw9804437036673127075:=()
def tw5224391321574412474:=()
def tw10508333367225416416:=()
def tw17370232881730504325:=()
def tw13368836545759462045:=()
def tw2742842484348487312:=()
def tw6843731668772450395:=()
def tw12245179037772223504:=()
def tw16644285626891756383:=()
def tw12553756089000271941:=()
def tw6136775650481652111:=()
def tw3732821180399409482:=()
def tw12004025917789591801:=()
def tw2731520794828139620:=()
def tw16577720234321136033:=()
def tw17790948795745555415:=()
def tw15187167482677790889:=()
def tw2647118554727789465:=()
def tw11067469469245755742:=()
def tw17764900466599429663:=()
def tw2312082983308014752:=()
def tw17155488610035314437:=()
def tw6533277787664684186:=()
def tw6474972503000621243:=()
def tw1414651871318875918:=()
def tw9498972957144032476:=()
def tw4062615599011918740:=()
def tw3476501245652535230:=()
def tw1478958155555301352:=()
def tw936101997101151102:=()
def tw4113151439480095348:=()
def tw14264729814471969796:=()
def tw12076154753904480875:=()
def tw4260115475731979985:=()
def tw1170294035435692033:=()
def tw7270935780685130170:=()
def tw1545685711142649977:=()
def tw10511168374211282933:=()
def tw6184473564971073843:=()
def tw2488519772586834059:=()
def tw373142513649292684:=()
def tw8798885584430790612:=()
def tw6768462374438503142:=()
def tw6754441673543926284:=()
def tw3807090799234257910:=()
def tw6732186999407674786:=()
def tw15967605819111310479:=()
def tw5754540900889465541:=()
end PySem.W.Fast
set_option maxRecDepth 100000 in
set_option maxHeartbeats 0 in
theorem PySem.Challenge.cw_mannerports_k01_ports_and_parts_holds : PySem.Challenge.rw_mannerports_k01_ports_and_parts.Holds := by
 w_on;o_law;k_head;(case hw=> w_witness2)
 k_fill
 refine Ln.walk (l:=eC) rfl rfl (fun w h Y=> PySem.W.kIn_of Y) ?F
 case F=>
  intro w mg fa h KX G hmg
  refine Ln.a5u KX G hmg (by k_is) (by k_is) (by k_is) (by k_is) ?_
  constructor
  ·exact PF.a8k (L:=[("NoNet",_)]) (fun C Ca e=> cF KX G e) (Ln.aiz (by k_is) (by k_is) .base (by k_is) (by k_is) (by k_is) (by k_is) (by k_is) (by k_is) (by k_is) (by k_is) (by k_is) (by k_is) (by k_is) (by k_is) (by k_is) (Ln.aeq (by k_is) (Ln.aeq (by k_is) Ln.ag3))) (.cons (Ln.aiz (by k_is) (by k_is) (.own _ .base) (by k_is) (by k_is) (by k_is) (by k_is) (by k_is) (by k_is) (by k_is) (by k_is) (by k_is) (by k_is) (by k_is) (by k_is) (by k_is) (Ln.aeq (by k_is) (Ln.aeq (by k_is) Ln.ag3))) .nil) (by decide)
  ·refine PF.aoo (fun C Ca e=> cF KX G e) (Ln.aiz (by k_is) (by k_is) .base (by k_is) (by k_is) (by k_is) (by k_is) (by k_is) (by k_is) (by k_is) (by k_is) (by k_is) (by k_is) (by k_is) (by k_is) (by k_is) Ln.ag3) (by k_is) (by k_is) ?_;exact fun kV doc pm an cdv ct us hl=> Ln.bd2 (fun _ _ _ _ _ _ _ _=> rfl) us hl kV doc pm an cdv ct
  ·refine PF.aoo (fun C Ca e=> cF KX G e) (Ln.aiz (by k_is) (by k_is) (.own _ .base) (by k_is) (by k_is) (by k_is) (by k_is) (by k_is) (by k_is) (by k_is) (by k_is) (by k_is) (by k_is) (by k_is) (by k_is) (by k_is) Ln.ag3) (by k_is) (by k_is) ?_;exact fun kV doc pm an cdv ct us hl=> Ln.bd3 (fun _ _ _ _ _ _ _ _ _=> rfl) us hl kV doc pm an cdv ct
  ·walk_at "hm";exact Ln.bd1 fun _ _ _ _ _ _ _=> rfl
  ·walk_at "hm";exact Ln.bd2 fun _ _ _ _ _ _ _ _=> rfl
  ·walk_at "hm";exact Ln.bd1 fun _ _ _ _ _ _ _=> rfl
  ·walk_at "hm";exact Ln.bd1 fun _ _ _ _ _ _ _=> rfl
  ·walk_at "hm";exact Ln.bd1 fun _ _ _ _ _ _ _=> rfl
  ·walk_at "hm";exact Ln.bd1 fun _ _ _ _ _ _ _=> rfl
  ·walk_at "hm";exact Ln.bd1 fun _ _ _ _ _ _ _=> rfl
  ·walk_at "hm";exact Ln.bd2 fun _ _ _ _ _ _ _ _=> rfl
  ·walk_at "hm";exact Ln.bd1 fun _ _ _ _ _ _ _=> rfl
  ·walk_at "hm";exact Ln.bd1 fun _ _ _ _ _ _ _=> rfl
  ·walk_at "hm";exact Ln.bd2 fun _ _ _ _ _ _ _ _=> rfl
  ·walk_at "hm";exact Ln.bd2 fun _ _ _ _ _ _ _ _=> rfl
  ·walk_at "hm";exact Ln.bd2 fun _ _ _ _ _ _ _ _=> rfl
  ·walk_at "hm";exact Ln.bd2 fun _ _ _ _ _ _ _ _=> rfl
  ·walk_at "hm";exact Ln.bd2 fun _ _ _ _ _ _ _ _=> rfl
  ·walk_at "hm";exact Ln.bd1 fun _ _ _ _ _ _ _=> rfl
  ·walk_at "hm";exact Ln.bd2 fun _ _ _ _ _ _ _ _=> rfl
  ·walk_at "hm";exact Ln.bd2 fun _ _ _ _ _ _ _ _=> rfl
  ·walk_at "hm";exact Ln.bd3 fun _ _ _ _ _ _ _ _ _=> rfl
  ·walk_at "hm";exact Ln.bd1 fun _ _ _ _ _ _ _=> rfl
  ·walk_at "hm";exact Ln.bd1 fun _ _ _ _ _ _ _=> rfl
  ·walk_at "hm";exact Ln.bd2 fun _ _ _ _ _ _ _ _=> rfl
  ·walk_at "hm";exact Ln.bd2 fun _ _ _ _ _ _ _ _=> rfl
  ·walk_at "hm";exact Ln.bd2 fun _ _ _ _ _ _ _ _=> rfl
  ·walk_at "hm";exact Ln.bd3 fun _ _ _ _ _ _ _ _ _=> rfl
  ·walk_at "hm";exact Ln.bd4 fun _ _ _ _ _ _ _ _ _ _=> rfl
  ·walk_at "hm";exact Ln.bd1 fun _ _ _ _ _ _ _=> rfl
  ·walk_at "hm";exact Ln.bd1 fun _ _ _ _ _ _ _=> rfl
  ·walk_at "hm";exact Ln.bd1 fun _ _ _ _ _ _ _=> rfl
  ·walk_at "hm";exact Ln.bd2 fun _ _ _ _ _ _ _ _=> rfl
  ·walk_at "hm";exact Ln.bd2 fun _ _ _ _ _ _ _ _=> rfl
  ·walk_at "hm";exact Ln.bd3 fun _ _ _ _ _ _ _ _ _=> rfl
  ·walk_at "hm";exact Ln.bd1 fun _ _ _ _ _ _ _=> rfl
  ·walk_at "hm";exact Ln.bd2 fun _ _ _ _ _ _ _ _=> rfl
  ·walk_at "hm";exact Ln.bd2 fun _ _ _ _ _ _ _ _=> rfl
  ·walk_at "hm";exact Ln.bd1 fun _ _ _ _ _ _ _=> rfl
  ·walk_at "hm";exact Ln.bd2 fun _ _ _ _ _ _ _ _=> rfl
  ·walk_at "hm";exact Ln.bd2 fun _ _ _ _ _ _ _ _=> rfl
  ·walk_at "hm";exact Ln.bd1 fun _ _ _ _ _ _ _=> rfl
  ·exact⟨_,cF KX G (by k_is)⟩
  ·exact⟨_,cF KX G (by k_is)⟩
  ·exact⟨_,cF KX G (by k_is)⟩
  ·exact⟨_,cF KX G (by k_is)⟩
  ·exact⟨_,cF KX G (by k_is)⟩
  ·exact⟨_,cF KX G (by k_is)⟩
  ·exact⟨_,cF KX G (by k_is)⟩
  ·exact Ln.aug KX G (by k_is) (by k_is) (by decide) (.cons ⟨_,rfl⟩ (.cons ⟨_,rfl⟩ (.cons ⟨_,rfl⟩ (.cons ⟨_,rfl⟩ (.nil)))))
  ·exact Ln.aug KX G (by k_is) (by k_is) (by decide) (.cons ⟨_,rfl⟩ (.cons ⟨_,rfl⟩ (.nil)))
  ·exact bf KX G (by k_is)
  ·exact bf KX G (by k_is)
  ·exact bf KX G (by k_is)
  ·exact bf KX G (by k_is)
  ·exact bf KX G (by k_is)
  ·exact bf KX G (by k_is)
  ·exact bf KX G (by k_is)
  ·exact bf KX G (by k_is)
  ·exact bf KX G (by k_is)
  ·exact bf KX G (by k_is)
  ·exact bf KX G (by k_is)
  ·exact bf KX G (by k_is)
  ·exact bf KX G (by k_is)
  ·exact bf KX G (by k_is)
  ·exact bf KX G (by k_is)
  ·exact bf KX G (by k_is)
  ·exact bf KX G (by k_is)
  ·exact bf KX G (by k_is)
